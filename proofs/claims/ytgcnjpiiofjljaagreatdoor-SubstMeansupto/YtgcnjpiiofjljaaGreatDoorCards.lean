/-
  DERIVED. GIVEN WITH THE SEED: THE CARDS: each row of YtgcnjpiiofjljaaGreatDoorRows.lean that lists a variable, with what it lists TIED to the program's text (the seventh form; the later family's looks); each row that meets fmt, with fmt's text TOLD by the authors' own Lean function (tested against real Go, not proved from fmt's source: count such statements apart). THE CARD IS WHAT COUNTS. Prove the row's statement (the work); the ties are given (YtgcnjpiiofjljaaGreatDoorTie.lean); close each card by the builder's one call (the guide's Derived/Test/ToyasCard.lean, 'card_holds'). Laid BY PROGRAM, IN A SANDBOX (cutbox-door.mjs). By AI agents, Wed Nov 11 2026. No macro, syntax, notation, axiom, sorry.
-/
import Derived.Test.YtgcnjpiiofjljaaGreatDoorRows
import GoSem.ClaimSeven
namespace Go.Proofs.YtgcnjpiiofjljaaGreatDoor
namespace Rows

/-- THE TIED CARD OF 'amalgamlaw07.SubstRenames'. -/
def substRenamesCard : Claim7 := { stood := { row := substRenamesRow, standIns := [], harness := (true, "2929dd95ebf0ff824626dbb99a40d0df2d00a4391a7ad35bc72813ffc3d272ca"), looks := false }, kinds := [], alts := [], laidByText := true, laidKinds := [.data, .data, .data], laidTests := true, laidLooks := .later }
def SubstRenamesCardSaid : Prop := Claim7.holds Tryz.pinned (.plain (OpenSpec.ofChange substRenamesSpec)) substRenamesCard

/-- THE TIED CARD OF 'amalgamlaw07.SubstMeans'. -/
def substMeansCard : Claim7 := { stood := { row := substMeansRow, standIns := [], harness := (true, "2929dd95ebf0ff824626dbb99a40d0df2d00a4391a7ad35bc72813ffc3d272ca"), looks := false }, kinds := [], alts := [], laidByText := true, laidKinds := [.data, .data, .data], laidTests := true, laidLooks := .later }
def SubstMeansCardSaid : Prop := Claim7.holds Tryz.pinned (.plain (OpenSpec.ofChange substMeansSpec)) substMeansCard

/-- THE SECOND FORM's CARD OF 'amalgamlaw07.SubstRenames'. -/
def substRenamesUptoCard : Claim7 := { stood := { row := substRenamesUptoRow, standIns := [], harness := (true, "2929dd95ebf0ff824626dbb99a40d0df2d00a4391a7ad35bc72813ffc3d272ca"), looks := false }, kinds := [], alts := [], laidByText := true, laidKinds := [.data, .data, .data], laidTests := true, laidLooks := .later }
def SubstRenamesUptoCardSaid : Prop := Claim7.holds Tryz.pinned (.plain (OpenSpec.upto substRenamesSpec)) substRenamesUptoCard

/-- THE SECOND FORM's CARD OF 'amalgamlaw07.SubstMeans'. -/
def substMeansUptoCard : Claim7 := { stood := { row := substMeansUptoRow, standIns := [], harness := (true, "2929dd95ebf0ff824626dbb99a40d0df2d00a4391a7ad35bc72813ffc3d272ca"), looks := false }, kinds := [], alts := [], laidByText := true, laidKinds := [.data, .data, .data], laidTests := true, laidLooks := .later }
def SubstMeansUptoCardSaid : Prop := Claim7.holds Tryz.pinned (.plain (OpenSpec.upto substMeansSpec)) substMeansUptoCard
end Rows
end Go.Proofs.YtgcnjpiiofjljaaGreatDoor
