/-
  DERIVED. GIVEN WITH THE SEED: THE CARDS: each row of YtdpdpjfnanjmgaaDoorRows.lean that lists a variable, with what it lists TIED to the program's text (the seventh form; the later family's looks); each row that meets fmt, with fmt's text TOLD by the authors' own Lean function (tested against real Go, not proved from fmt's source: count such statements apart). THE CARD IS WHAT COUNTS. Prove the row's statement (the work); the ties are given (YtdpdpjfnanjmgaaDoorTie.lean); close each card by the builder's one call (the guide's Derived/Test/ToyasCard.lean, 'card_holds'). Laid BY PROGRAM, IN A SANDBOX (cutbox-door.mjs). By AI agents, Wed Nov 11 2026. No macro, syntax, notation, axiom, sorry.
-/
import Derived.Test.YtdpdpjfnanjmgaaDoorRows
import GoSem.ClaimSeven
namespace Go.Proofs.YtdpdpjfnanjmgaaDoor
namespace Rows

/-- THE TIED CARD OF 'amalgamlaw19.SplitNames'. -/
def splitNamesCard : Claim7 := { stood := { row := splitNamesRow, standIns := [], harness := (true, "4284cc7fe0992e241356c99cda84be4408b2d362c906f5bde8ad871ebae05668"), looks := false }, kinds := [], alts := [], laidByText := true, laidKinds := [.data], laidTests := true, laidLooks := .later }
def SplitNamesCardSaid : Prop := Claim7.holds Tryd.pinned (.plain (OpenSpec.ofChange splitNamesSpec)) splitNamesCard

/-- THE TIED CARD OF 'amalgamlaw19.SplitGoes'. -/
def splitGoesCard : Claim7 := { stood := { row := splitGoesRow, standIns := [], harness := (true, "4284cc7fe0992e241356c99cda84be4408b2d362c906f5bde8ad871ebae05668"), looks := false }, kinds := [], alts := [], laidByText := true, laidKinds := [.data], laidTests := true, laidLooks := .later }
def SplitGoesCardSaid : Prop := Claim7.holds Tryd.pinned (.plain (OpenSpec.ofChange splitGoesSpec)) splitGoesCard

/-- THE TIED CARD OF 'amalgamlaw19.SplitAdds'. -/
def splitAddsCard : Claim7 := { stood := { row := splitAddsRow, standIns := [], harness := (true, "4284cc7fe0992e241356c99cda84be4408b2d362c906f5bde8ad871ebae05668"), looks := false }, kinds := [], alts := [], laidByText := true, laidKinds := [.data], laidTests := true, laidLooks := .later }
def SplitAddsCardSaid : Prop := Claim7.holds Tryd.pinned (.plain (OpenSpec.ofChange splitAddsSpec)) splitAddsCard

/-- THE TIED CARD OF 'amalgamlaw19.SplitKinds'. -/
def splitKindsCard : Claim7 := { stood := { row := splitKindsRow, standIns := [], harness := (true, "4284cc7fe0992e241356c99cda84be4408b2d362c906f5bde8ad871ebae05668"), looks := false }, kinds := [], alts := [], laidByText := true, laidKinds := [.data], laidTests := true, laidLooks := .later }
def SplitKindsCardSaid : Prop := Claim7.holds Tryd.pinned (.plain (OpenSpec.ofChange splitKindsSpec)) splitKindsCard

/-- THE TIED CARD OF 'amalgamlaw19.SplitWhoever'. -/
def splitWhoeverCard : Claim7 := { stood := { row := splitWhoeverRow, standIns := [], harness := (true, "4284cc7fe0992e241356c99cda84be4408b2d362c906f5bde8ad871ebae05668"), looks := false }, kinds := [], alts := [], laidByText := true, laidKinds := [.data], laidTests := true, laidLooks := .later }
def SplitWhoeverCardSaid : Prop := Claim7.holds Tryd.pinned (.plain (OpenSpec.ofChange splitWhoeverSpec)) splitWhoeverCard

/-- THE SECOND FORM's CARD OF 'amalgamlaw19.SplitNames'. -/
def splitNamesUptoCard : Claim7 := { stood := { row := splitNamesUptoRow, standIns := [], harness := (true, "4284cc7fe0992e241356c99cda84be4408b2d362c906f5bde8ad871ebae05668"), looks := false }, kinds := [], alts := [], laidByText := true, laidKinds := [.data], laidTests := true, laidLooks := .later }
def SplitNamesUptoCardSaid : Prop := Claim7.holds Tryd.pinned (.plain (OpenSpec.upto splitNamesSpec)) splitNamesUptoCard

/-- THE SECOND FORM's CARD OF 'amalgamlaw19.SplitGoes'. -/
def splitGoesUptoCard : Claim7 := { stood := { row := splitGoesUptoRow, standIns := [], harness := (true, "4284cc7fe0992e241356c99cda84be4408b2d362c906f5bde8ad871ebae05668"), looks := false }, kinds := [], alts := [], laidByText := true, laidKinds := [.data], laidTests := true, laidLooks := .later }
def SplitGoesUptoCardSaid : Prop := Claim7.holds Tryd.pinned (.plain (OpenSpec.upto splitGoesSpec)) splitGoesUptoCard

/-- THE SECOND FORM's CARD OF 'amalgamlaw19.SplitAdds'. -/
def splitAddsUptoCard : Claim7 := { stood := { row := splitAddsUptoRow, standIns := [], harness := (true, "4284cc7fe0992e241356c99cda84be4408b2d362c906f5bde8ad871ebae05668"), looks := false }, kinds := [], alts := [], laidByText := true, laidKinds := [.data], laidTests := true, laidLooks := .later }
def SplitAddsUptoCardSaid : Prop := Claim7.holds Tryd.pinned (.plain (OpenSpec.upto splitAddsSpec)) splitAddsUptoCard

/-- THE SECOND FORM's CARD OF 'amalgamlaw19.SplitKinds'. -/
def splitKindsUptoCard : Claim7 := { stood := { row := splitKindsUptoRow, standIns := [], harness := (true, "4284cc7fe0992e241356c99cda84be4408b2d362c906f5bde8ad871ebae05668"), looks := false }, kinds := [], alts := [], laidByText := true, laidKinds := [.data], laidTests := true, laidLooks := .later }
def SplitKindsUptoCardSaid : Prop := Claim7.holds Tryd.pinned (.plain (OpenSpec.upto splitKindsSpec)) splitKindsUptoCard

/-- THE SECOND FORM's CARD OF 'amalgamlaw19.SplitWhoever'. -/
def splitWhoeverUptoCard : Claim7 := { stood := { row := splitWhoeverUptoRow, standIns := [], harness := (true, "4284cc7fe0992e241356c99cda84be4408b2d362c906f5bde8ad871ebae05668"), looks := false }, kinds := [], alts := [], laidByText := true, laidKinds := [.data], laidTests := true, laidLooks := .later }
def SplitWhoeverUptoCardSaid : Prop := Claim7.holds Tryd.pinned (.plain (OpenSpec.upto splitWhoeverSpec)) splitWhoeverUptoCard
end Rows
end Go.Proofs.YtdpdpjfnanjmgaaDoor
