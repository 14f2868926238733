/-
  No cell of these rows narrows 'for every input' (looked for: loops, veiled, ifaces, maps, wideKeys, modest, calm, conditions, laid).
  DERIVED. THE GIVEN ROWS OF THIS SEAT. 4 by the template 'for every input the law returns true; each argument reads behind the call as it read before'; 0 by the template 'total and deterministic' (their statements: YtchjdpmgocapjaaTotals.lean).
  GIVEN WITH THE SEED: the statements are not yours to turn. If you find one false, say at which input.
  Laid BY PROGRAM, IN A SANDBOX (cutbox-rows.mjs): the forced cells as the released guide's own fill.sh prints them over the translation 54579ffbe6e9250e… (all of the seat's roots in one cut). By AI agents, Wed Nov 11 2026. No macro, syntax, notation, axiom, sorry.
-/
import Derived.Test.YtchjdpmgocapjaaChecked
import GoSem.Claim
import GoSem.ClaimJoined
import GoSem.ClaimMapViews
import Derived.JoinedTies
import Derived.KernelRfl
namespace Go.Proofs.Ytchjdpmgocapjaa
/- THE CELL 'sum', in the pinned program and in every row, IS THE sha256 OF THE DUMP (.gsa) THAT YtchjdpmgocapjaaProg.lean LOADS. Nothing in Lean hashes anything: it is a label: what it is worth is what the hold of that sum in a sandbox is worth. -/
noncomputable def Try.pinned : Pinned := { name := "ytchjdpmgocapjaa", sum := "54579ffbe6e9250ed5e4c9148de25bb58822e1893c2548166563c15fe2a0dfbe", checked := Try.checked }
namespace Rows
def none {H : Type} : Left H := { results := [], args := [] }

/-- 'amalgamlaw11.AgendaNames': WHATEVER THE INPUT: true; the input reads as it did. -/
def agendaNamesSpec : ChangeSpec := { name := "agendaNames", fn := fun _ => fun
  | [] => { results := [.lit (.bool true)], args := [] }
  | _ => none }
def agendaNamesRow : OpenClaim := { program := "ytchjdpmgocapjaa", sum := "54579ffbe6e9250ed5e4c9148de25bb58822e1893c2548166563c15fe2a0dfbe", func := "amalgam/amalgamlaw11.AgendaNames", spec := "agendaNames", unfollowed := true, recurses := true, apart := false }
def AgendaNamesSaid : Prop := agendaNamesRow.holds Try.pinned (OpenSpec.ofChange agendaNamesSpec)

/-- ITS FALSE NEIGHBOUR: 'it returns false'. Refute it at one input. -/
def agendaNamesWrong : ChangeSpec := { name := "agendaNames", fn := fun _ => fun
  | [] => { results := [.lit (.bool false)], args := [] }
  | _ => none }
def AgendaNamesWrongFalsely : Prop := agendaNamesRow.holds Try.pinned (OpenSpec.ofChange agendaNamesWrong)

/-- 'amalgamlaw11.AgendaPlays': WHATEVER THE INPUT: true; the input reads as it did. -/
def agendaPlaysSpec : ChangeSpec := { name := "agendaPlays", fn := fun _ => fun
  | [d1, d2] => { results := [.lit (.bool true)], args := [d1, d2] }
  | _ => none }
def agendaPlaysRow : OpenClaim := { program := "ytchjdpmgocapjaa", sum := "54579ffbe6e9250ed5e4c9148de25bb58822e1893c2548166563c15fe2a0dfbe", func := "amalgam/amalgamlaw11.AgendaPlays", spec := "agendaPlays", unfollowed := true, recurses := true, apart := false }
def AgendaPlaysSaid : Prop := agendaPlaysRow.holds Try.pinned (OpenSpec.ofChange agendaPlaysSpec)

/-- ITS FALSE NEIGHBOUR: 'it returns false'. Refute it at one input. -/
def agendaPlaysWrong : ChangeSpec := { name := "agendaPlays", fn := fun _ => fun
  | [d1, d2] => { results := [.lit (.bool false)], args := [d1, d2] }
  | _ => none }
def AgendaPlaysWrongFalsely : Prop := agendaPlaysRow.holds Try.pinned (OpenSpec.ofChange agendaPlaysWrong)

/-- 'amalgamlaw11.AgendaSorts': WHATEVER THE INPUT: true; the input reads as it did. -/
def agendaSortsSpec : ChangeSpec := { name := "agendaSorts", fn := fun _ => fun
  | [d] => { results := [.lit (.bool true)], args := [d] }
  | _ => none }
def agendaSortsRow : OpenClaim := { program := "ytchjdpmgocapjaa", sum := "54579ffbe6e9250ed5e4c9148de25bb58822e1893c2548166563c15fe2a0dfbe", func := "amalgam/amalgamlaw11.AgendaSorts", spec := "agendaSorts", unfollowed := true, recurses := true, apart := false }
def AgendaSortsSaid : Prop := agendaSortsRow.holds Try.pinned (OpenSpec.ofChange agendaSortsSpec)

/-- ITS FALSE NEIGHBOUR: 'it returns false'. Refute it at one input. -/
def agendaSortsWrong : ChangeSpec := { name := "agendaSorts", fn := fun _ => fun
  | [d] => { results := [.lit (.bool false)], args := [d] }
  | _ => none }
def AgendaSortsWrongFalsely : Prop := agendaSortsRow.holds Try.pinned (OpenSpec.ofChange agendaSortsWrong)

/-- 'amalgamlaw11.AgendaSame': WHATEVER THE INPUT: true; the input reads as it did. -/
def agendaSameSpec : ChangeSpec := { name := "agendaSame", fn := fun _ => fun
  | [d1, d2, d3] => { results := [.lit (.bool true)], args := [d1, d2, d3] }
  | _ => none }
def agendaSameRow : OpenClaim := { program := "ytchjdpmgocapjaa", sum := "54579ffbe6e9250ed5e4c9148de25bb58822e1893c2548166563c15fe2a0dfbe", func := "amalgam/amalgamlaw11.AgendaSame", spec := "agendaSame", unfollowed := true, recurses := true, apart := false }
def AgendaSameSaid : Prop := agendaSameRow.holds Try.pinned (OpenSpec.ofChange agendaSameSpec)

/-- ITS FALSE NEIGHBOUR: 'it returns false'. Refute it at one input. -/
def agendaSameWrong : ChangeSpec := { name := "agendaSame", fn := fun _ => fun
  | [d1, d2, d3] => { results := [.lit (.bool false)], args := [d1, d2, d3] }
  | _ => none }
def AgendaSameWrongFalsely : Prop := agendaSameRow.holds Try.pinned (OpenSpec.ofChange agendaSameWrong)

/- THE SECOND FORM. 'bulk': how many values and letters a reading holds, each counted each time it is reached (what is shared counts as often as it is met; a slice's spare places count too). A statement '..UptoSaid' is the law's where the arguments, and the package variables that the reading takes, are together of bulk at most 1048576: NARROWER than '..Said'. Prove '..Said' where nothing that the law and all that it calls make is longer than what came in: it says more and counts as full. Else prove '..UptoSaid'. A law counts once. -/
mutual
def uptoBulk {H : Type} : DataW H → Nat
  | .lit (.string bytes) => bytes.length + 1
  | .lit _ => 1
  | .nil => 1
  | .ptr d => uptoBulk d + 1
  | .slice elems spare => uptoBulkAll elems + uptoBulkAll spare + 1
  | .agg parts => uptoBulkAll parts + 1
  | .iface _ d => uptoBulk d + 1
  | .map entries => uptoBulkEntries entries + 1
  | .held _ => 1
def uptoBulkAll {H : Type} : List (DataW H) → Nat
  | [] => 0
  | d :: r => uptoBulk d + uptoBulkAll r
def uptoBulkEntries {H : Type} : List (Lit × DataW H) → Nat
  | [] => 0
  | x :: r => uptoBulkEntry x + uptoBulkEntries r
def uptoBulkEntry {H : Type} : Lit × DataW H → Nat
  | (.string bytes, d) => bytes.length + uptoBulk d + 1
  | (_, d) => uptoBulk d + 1
 end
def uptoSmall : (H : Type) → List (DataW H) → Bool := fun _ ds => decide (uptoBulkAll ds ≤ 1048576)
def OpenSpec.upto (s : _root_.Go.ChangeSpec) : _root_.Go.OpenSpec := { _root_.Go.OpenSpec.ofChange s with cond := some uptoSmall }

/-- 'amalgamlaw11.AgendaNames', WHERE WHAT IT READS IS OF BULK AT MOST 1048576: true; the input reads as it did. -/
def agendaNamesUptoRow : OpenClaim := { program := "ytchjdpmgocapjaa", sum := "54579ffbe6e9250ed5e4c9148de25bb58822e1893c2548166563c15fe2a0dfbe", func := "amalgam/amalgamlaw11.AgendaNames", spec := "agendaNames", unfollowed := true, recurses := true, apart := false, narrowed := true }
def AgendaNamesUptoSaid : Prop := agendaNamesUptoRow.holds Try.pinned (OpenSpec.upto agendaNamesSpec)

/-- 'amalgamlaw11.AgendaPlays', WHERE WHAT IT READS IS OF BULK AT MOST 1048576: true; the input reads as it did. -/
def agendaPlaysUptoRow : OpenClaim := { program := "ytchjdpmgocapjaa", sum := "54579ffbe6e9250ed5e4c9148de25bb58822e1893c2548166563c15fe2a0dfbe", func := "amalgam/amalgamlaw11.AgendaPlays", spec := "agendaPlays", unfollowed := true, recurses := true, apart := false, narrowed := true }
def AgendaPlaysUptoSaid : Prop := agendaPlaysUptoRow.holds Try.pinned (OpenSpec.upto agendaPlaysSpec)

/-- 'amalgamlaw11.AgendaSorts', WHERE WHAT IT READS IS OF BULK AT MOST 1048576: true; the input reads as it did. -/
def agendaSortsUptoRow : OpenClaim := { program := "ytchjdpmgocapjaa", sum := "54579ffbe6e9250ed5e4c9148de25bb58822e1893c2548166563c15fe2a0dfbe", func := "amalgam/amalgamlaw11.AgendaSorts", spec := "agendaSorts", unfollowed := true, recurses := true, apart := false, narrowed := true }
def AgendaSortsUptoSaid : Prop := agendaSortsUptoRow.holds Try.pinned (OpenSpec.upto agendaSortsSpec)

/-- 'amalgamlaw11.AgendaSame', WHERE WHAT IT READS IS OF BULK AT MOST 1048576: true; the input reads as it did. -/
def agendaSameUptoRow : OpenClaim := { program := "ytchjdpmgocapjaa", sum := "54579ffbe6e9250ed5e4c9148de25bb58822e1893c2548166563c15fe2a0dfbe", func := "amalgam/amalgamlaw11.AgendaSame", spec := "agendaSame", unfollowed := true, recurses := true, apart := false, narrowed := true }
def AgendaSameUptoSaid : Prop := agendaSameUptoRow.holds Try.pinned (OpenSpec.upto agendaSameSpec)

end Rows
end Go.Proofs.Ytchjdpmgocapjaa
