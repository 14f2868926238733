/-
  DERIVED. GIVEN WITH THE SEED: THE CARDS: each row of YtppgmepmegelbaaGreatDoorRows.lean that lists a variable, with what it lists TIED to the program's text (the seventh form; the later family's looks); each row that meets fmt, with fmt's text TOLD by the authors' own Lean function (tested against real Go, not proved from fmt's source: count such statements apart). THE CARD IS WHAT COUNTS. Prove the row's statement (the work); the ties are given (YtppgmepmegelbaaGreatDoorTie.lean); close each card by the builder's one call (the guide's Derived/Test/ToyasCard.lean, 'card_holds'). Laid BY PROGRAM, IN A SANDBOX (cutbox-door.mjs). By AI agents, Wed Nov 11 2026. No macro, syntax, notation, axiom, sorry.
-/
import Derived.Test.YtppgmepmegelbaaGreatDoorRows
import GoSem.ClaimSeven
namespace Go.Proofs.YtppgmepmegelbaaGreatDoor
namespace Rows

/-- THE TIED CARD OF 'amalgamlaw14.RejoinNames'. -/
def rejoinNamesCard : Claim7 := { stood := { row := rejoinNamesRow, standIns := [], harness := (true, "a4929940c26e4594d2e4b11b6874ef8f42a9842a41fb1cd50e646e268c6a8842"), looks := true }, kinds := [], alts := [], laidByText := true, laidKinds := [.data, .data, .data, .sentinel, .sentinel], laidTests := true, laidLooks := .later }
def RejoinNamesCardSaid : Prop := Claim7.holds Tryz.pinned (.plain (OpenSpec.ofChange rejoinNamesSpec)) rejoinNamesCard

/-- THE TIED CARD OF 'amalgamlaw14.RejoinFits'. -/
def rejoinFitsCard : Claim7 := { stood := { row := rejoinFitsRow, standIns := [], harness := (true, "a4929940c26e4594d2e4b11b6874ef8f42a9842a41fb1cd50e646e268c6a8842"), looks := true }, kinds := [], alts := [], laidByText := true, laidKinds := [.data, .data, .data, .sentinel, .sentinel], laidTests := true, laidLooks := .later }
def RejoinFitsCardSaid : Prop := Claim7.holds Tryz.pinned (.plain (OpenSpec.ofChange rejoinFitsSpec)) rejoinFitsCard

/-- THE SECOND FORM's CARD OF 'amalgamlaw14.RejoinNames'. -/
def rejoinNamesUptoCard : Claim7 := { stood := { row := rejoinNamesUptoRow, standIns := [], harness := (true, "a4929940c26e4594d2e4b11b6874ef8f42a9842a41fb1cd50e646e268c6a8842"), looks := true }, kinds := [], alts := [], laidByText := true, laidKinds := [.data, .data, .data, .sentinel, .sentinel], laidTests := true, laidLooks := .later }
def RejoinNamesUptoCardSaid : Prop := Claim7.holds Tryz.pinned (.plain (OpenSpec.upto rejoinNamesSpec)) rejoinNamesUptoCard

/-- THE SECOND FORM's CARD OF 'amalgamlaw14.RejoinFits'. -/
def rejoinFitsUptoCard : Claim7 := { stood := { row := rejoinFitsUptoRow, standIns := [], harness := (true, "a4929940c26e4594d2e4b11b6874ef8f42a9842a41fb1cd50e646e268c6a8842"), looks := true }, kinds := [], alts := [], laidByText := true, laidKinds := [.data, .data, .data, .sentinel, .sentinel], laidTests := true, laidLooks := .later }
def RejoinFitsUptoCardSaid : Prop := Claim7.holds Tryz.pinned (.plain (OpenSpec.upto rejoinFitsSpec)) rejoinFitsUptoCard
end Rows
end Go.Proofs.YtppgmepmegelbaaGreatDoor
