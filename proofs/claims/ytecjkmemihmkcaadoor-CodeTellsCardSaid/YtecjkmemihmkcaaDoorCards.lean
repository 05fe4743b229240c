/-
  DERIVED. GIVEN WITH THE SEED: THE CARDS: each row of YtecjkmemihmkcaaDoorRows.lean that lists a variable, with what it lists TIED to the program's text (the seventh form; the later family's looks); each row that meets fmt, with fmt's text TOLD by the authors' own Lean function (tested against real Go, not proved from fmt's source: count such statements apart). THE CARD IS WHAT COUNTS. Prove the row's statement (the work); the ties are given (YtecjkmemihmkcaaDoorTie.lean); close each card by the builder's one call (the guide's Derived/Test/ToyasCard.lean, 'card_holds'). Laid BY PROGRAM, IN A SANDBOX (cutbox-door.mjs). By AI agents, Wed Nov 11 2026. No macro, syntax, notation, axiom, sorry.
-/
import Derived.Test.YtecjkmemihmkcaaDoorRows
import GoSem.ClaimSeven
namespace Go.Proofs.YtecjkmemihmkcaaDoor
namespace Rows

/-- THE TIED CARD OF 'covenantlaw11.CodeTells'. -/
def codeTellsCard : Claim7 := { stood := { row := codeTellsRow, standIns := [], harness := (true, "2f0e06584c98afe95d6098d440df39392bd59b8dbbd572b4a8d179698efa6fc3"), looks := false }, kinds := [], alts := [], laidByText := true, laidKinds := [.data], laidTests := true, laidLooks := .later }
def CodeTellsCardSaid : Prop := Claim7.holds Tryd.pinned (.plain (OpenSpec.ofChange codeTellsSpec)) codeTellsCard

/-- THE TIED CARD OF 'covenantlaw11.CodeBack'. -/
def codeBackCard : Claim7 := { stood := { row := codeBackRow, standIns := [], harness := (true, "2f0e06584c98afe95d6098d440df39392bd59b8dbbd572b4a8d179698efa6fc3"), looks := false }, kinds := [], alts := [], laidByText := true, laidKinds := [.data], laidTests := true, laidLooks := .later }
def CodeBackCardSaid : Prop := Claim7.holds Tryd.pinned (.plain (OpenSpec.ofChange codeBackSpec)) codeBackCard

/-- THE TIED CARD OF 'covenantlaw11.CodeKept'. -/
def codeKeptCard : Claim7 := { stood := { row := codeKeptRow, standIns := [], harness := (true, "2f0e06584c98afe95d6098d440df39392bd59b8dbbd572b4a8d179698efa6fc3"), looks := false }, kinds := [], alts := [], laidByText := true, laidKinds := [.data], laidTests := true, laidLooks := .later }
def CodeKeptCardSaid : Prop := Claim7.holds Tryd.pinned (.plain (OpenSpec.ofChange codeKeptSpec)) codeKeptCard

/-- THE TIED CARD OF 'covenantlaw11.CodeSigns'. -/
def codeSignsCard : Claim7 := { stood := { row := codeSignsRow, standIns := [], harness := (true, "2f0e06584c98afe95d6098d440df39392bd59b8dbbd572b4a8d179698efa6fc3"), looks := false }, kinds := [], alts := [], laidByText := true, laidKinds := [.data], laidTests := true, laidLooks := .later }
def CodeSignsCardSaid : Prop := Claim7.holds Tryd.pinned (.plain (OpenSpec.ofChange codeSignsSpec)) codeSignsCard

/-- THE TIED CARD OF 'covenantlaw11.CodeCuts'. -/
def codeCutsCard : Claim7 := { stood := { row := codeCutsRow, standIns := [], harness := (true, "2f0e06584c98afe95d6098d440df39392bd59b8dbbd572b4a8d179698efa6fc3"), looks := false }, kinds := [], alts := [], laidByText := true, laidKinds := [.data], laidTests := true, laidLooks := .later }
def CodeCutsCardSaid : Prop := Claim7.holds Tryd.pinned (.plain (OpenSpec.ofChange codeCutsSpec)) codeCutsCard

/-- THE TIED CARD OF 'covenantlaw11.CodeSizes'. -/
def codeSizesCard : Claim7 := { stood := { row := codeSizesRow, standIns := [], harness := (true, "2f0e06584c98afe95d6098d440df39392bd59b8dbbd572b4a8d179698efa6fc3"), looks := false }, kinds := [], alts := [], laidByText := true, laidKinds := [.data], laidTests := true, laidLooks := .later }
def CodeSizesCardSaid : Prop := Claim7.holds Tryd.pinned (.plain (OpenSpec.ofChange codeSizesSpec)) codeSizesCard

/-- THE TIED CARD OF 'covenantlaw11.CodeLimits'. -/
def codeLimitsCard : Claim7 := { stood := { row := codeLimitsRow, standIns := [], harness := (true, "2f0e06584c98afe95d6098d440df39392bd59b8dbbd572b4a8d179698efa6fc3"), looks := false }, kinds := [], alts := [], laidByText := true, laidKinds := [.data], laidTests := true, laidLooks := .later }
def CodeLimitsCardSaid : Prop := Claim7.holds Tryd.pinned (.plain (OpenSpec.ofChange codeLimitsSpec)) codeLimitsCard

/-- THE SECOND FORM's CARD OF 'covenantlaw11.CodeTells'. -/
def codeTellsUptoCard : Claim7 := { stood := { row := codeTellsUptoRow, standIns := [], harness := (true, "2f0e06584c98afe95d6098d440df39392bd59b8dbbd572b4a8d179698efa6fc3"), looks := false }, kinds := [], alts := [], laidByText := true, laidKinds := [.data], laidTests := true, laidLooks := .later }
def CodeTellsUptoCardSaid : Prop := Claim7.holds Tryd.pinned (.plain (OpenSpec.upto codeTellsSpec)) codeTellsUptoCard

/-- THE SECOND FORM's CARD OF 'covenantlaw11.CodeBack'. -/
def codeBackUptoCard : Claim7 := { stood := { row := codeBackUptoRow, standIns := [], harness := (true, "2f0e06584c98afe95d6098d440df39392bd59b8dbbd572b4a8d179698efa6fc3"), looks := false }, kinds := [], alts := [], laidByText := true, laidKinds := [.data], laidTests := true, laidLooks := .later }
def CodeBackUptoCardSaid : Prop := Claim7.holds Tryd.pinned (.plain (OpenSpec.upto codeBackSpec)) codeBackUptoCard

/-- THE SECOND FORM's CARD OF 'covenantlaw11.CodeKept'. -/
def codeKeptUptoCard : Claim7 := { stood := { row := codeKeptUptoRow, standIns := [], harness := (true, "2f0e06584c98afe95d6098d440df39392bd59b8dbbd572b4a8d179698efa6fc3"), looks := false }, kinds := [], alts := [], laidByText := true, laidKinds := [.data], laidTests := true, laidLooks := .later }
def CodeKeptUptoCardSaid : Prop := Claim7.holds Tryd.pinned (.plain (OpenSpec.upto codeKeptSpec)) codeKeptUptoCard

/-- THE SECOND FORM's CARD OF 'covenantlaw11.CodeSigns'. -/
def codeSignsUptoCard : Claim7 := { stood := { row := codeSignsUptoRow, standIns := [], harness := (true, "2f0e06584c98afe95d6098d440df39392bd59b8dbbd572b4a8d179698efa6fc3"), looks := false }, kinds := [], alts := [], laidByText := true, laidKinds := [.data], laidTests := true, laidLooks := .later }
def CodeSignsUptoCardSaid : Prop := Claim7.holds Tryd.pinned (.plain (OpenSpec.upto codeSignsSpec)) codeSignsUptoCard

/-- THE SECOND FORM's CARD OF 'covenantlaw11.CodeCuts'. -/
def codeCutsUptoCard : Claim7 := { stood := { row := codeCutsUptoRow, standIns := [], harness := (true, "2f0e06584c98afe95d6098d440df39392bd59b8dbbd572b4a8d179698efa6fc3"), looks := false }, kinds := [], alts := [], laidByText := true, laidKinds := [.data], laidTests := true, laidLooks := .later }
def CodeCutsUptoCardSaid : Prop := Claim7.holds Tryd.pinned (.plain (OpenSpec.upto codeCutsSpec)) codeCutsUptoCard

/-- THE SECOND FORM's CARD OF 'covenantlaw11.CodeSizes'. -/
def codeSizesUptoCard : Claim7 := { stood := { row := codeSizesUptoRow, standIns := [], harness := (true, "2f0e06584c98afe95d6098d440df39392bd59b8dbbd572b4a8d179698efa6fc3"), looks := false }, kinds := [], alts := [], laidByText := true, laidKinds := [.data], laidTests := true, laidLooks := .later }
def CodeSizesUptoCardSaid : Prop := Claim7.holds Tryd.pinned (.plain (OpenSpec.upto codeSizesSpec)) codeSizesUptoCard

/-- THE SECOND FORM's CARD OF 'covenantlaw11.CodeLimits'. -/
def codeLimitsUptoCard : Claim7 := { stood := { row := codeLimitsUptoRow, standIns := [], harness := (true, "2f0e06584c98afe95d6098d440df39392bd59b8dbbd572b4a8d179698efa6fc3"), looks := false }, kinds := [], alts := [], laidByText := true, laidKinds := [.data], laidTests := true, laidLooks := .later }
def CodeLimitsUptoCardSaid : Prop := Claim7.holds Tryd.pinned (.plain (OpenSpec.upto codeLimitsSpec)) codeLimitsUptoCard
end Rows
end Go.Proofs.YtecjkmemihmkcaaDoor
