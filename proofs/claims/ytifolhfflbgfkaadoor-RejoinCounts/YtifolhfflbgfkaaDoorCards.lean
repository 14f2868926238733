/-
  DERIVED. GIVEN WITH THE SEED: THE CARDS: each row of YtifolhfflbgfkaaDoorRows.lean that lists a variable, with what it lists TIED to the program's text (the seventh form; the later family's looks); each row that meets fmt, with fmt's text TOLD by the authors' own Lean function (tested against real Go, not proved from fmt's source: count such statements apart). THE CARD IS WHAT COUNTS. Prove the row's statement (the work); the ties are given (YtifolhfflbgfkaaDoorTie.lean); close each card by the builder's one call (the guide's Derived/Test/ToyasCard.lean, 'card_holds'). Laid BY PROGRAM, IN A SANDBOX (cutbox-door.mjs). By AI agents, Wed Nov 11 2026. No macro, syntax, notation, axiom, sorry.
-/
import Derived.Test.YtifolhfflbgfkaaDoorRows
import GoSem.ClaimSeven
namespace Go.Proofs.YtifolhfflbgfkaaDoor
namespace Rows

/-- THE TIED CARD OF 'amalgamlaw14.RejoinCounts'. -/
def rejoinCountsCard : Claim7 := { stood := { row := rejoinCountsRow, standIns := [], harness := (true, "7e47fca6c48fa8d7997402ca4696a4f032208dfddee4fc6f2fe90bd10c7aa06b"), looks := true }, kinds := [], alts := [], laidByText := true, laidKinds := [.data, .data, .data, .sentinel, .sentinel], laidTests := true, laidLooks := .later }
def RejoinCountsCardSaid : Prop := Claim7.holds Tryd.pinned (.plain (OpenSpec.ofChange rejoinCountsSpec)) rejoinCountsCard

/-- THE SECOND FORM's CARD OF 'amalgamlaw14.RejoinCounts'. -/
def rejoinCountsUptoCard : Claim7 := { stood := { row := rejoinCountsUptoRow, standIns := [], harness := (true, "7e47fca6c48fa8d7997402ca4696a4f032208dfddee4fc6f2fe90bd10c7aa06b"), looks := true }, kinds := [], alts := [], laidByText := true, laidKinds := [.data, .data, .data, .sentinel, .sentinel], laidTests := true, laidLooks := .later }
def RejoinCountsUptoCardSaid : Prop := Claim7.holds Tryd.pinned (.plain (OpenSpec.upto rejoinCountsSpec)) rejoinCountsUptoCard
end Rows
end Go.Proofs.YtifolhfflbgfkaaDoor
