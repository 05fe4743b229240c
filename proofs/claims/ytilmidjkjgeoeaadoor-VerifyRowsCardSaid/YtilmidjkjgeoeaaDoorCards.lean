/-
  DERIVED. GIVEN WITH THE SEED: THE CARDS: each row of YtilmidjkjgeoeaaDoorRows.lean that lists a variable, with what it lists TIED to the program's text (the seventh form; the later family's looks); each row that meets fmt, with fmt's text TOLD by the authors' own Lean function (tested against real Go, not proved from fmt's source: count such statements apart). THE CARD IS WHAT COUNTS. Prove the row's statement (the work); the ties are given (YtilmidjkjgeoeaaDoorTie.lean); close each card by the builder's one call (the guide's Derived/Test/ToyasCard.lean, 'card_holds'). Laid BY PROGRAM, IN A SANDBOX (cutbox-door.mjs). By AI agents, Wed Nov 11 2026. No macro, syntax, notation, axiom, sorry.
-/
import Derived.Test.YtilmidjkjgeoeaaDoorRows
import GoSem.ClaimSeven
namespace Go.Proofs.YtilmidjkjgeoeaaDoor
namespace Rows

/-- THE TIED CARD OF 'covenantlaw13.VerifyEach'. -/
def verifyEachCard : Claim7 := { stood := { row := verifyEachRow, standIns := [], harness := (true, "fad6c5e2caa190d9100d19385f7a42cfa2459f0e0adde6f311346a360551f82c"), looks := false }, kinds := [], alts := [], laidByText := true, laidKinds := [.data], laidTests := true, laidLooks := .later }
def VerifyEachCardSaid : Prop := Claim7.holds Tryd.pinned (.plain (OpenSpec.ofChange verifyEachSpec)) verifyEachCard

/-- THE TIED CARD OF 'covenantlaw13.VerifyFalls'. -/
def verifyFallsCard : Claim7 := { stood := { row := verifyFallsRow, standIns := [], harness := (true, "fad6c5e2caa190d9100d19385f7a42cfa2459f0e0adde6f311346a360551f82c"), looks := false }, kinds := [], alts := [], laidByText := true, laidKinds := [.data], laidTests := true, laidLooks := .later }
def VerifyFallsCardSaid : Prop := Claim7.holds Tryd.pinned (.plain (OpenSpec.ofChange verifyFallsSpec)) verifyFallsCard

/-- THE TIED CARD OF 'covenantlaw13.VerifyRows'. -/
def verifyRowsCard : Claim7 := { stood := { row := verifyRowsRow, standIns := [], harness := (true, "fad6c5e2caa190d9100d19385f7a42cfa2459f0e0adde6f311346a360551f82c"), looks := false }, kinds := [], alts := [], laidByText := true, laidKinds := [.data], laidTests := true, laidLooks := .later }
def VerifyRowsCardSaid : Prop := Claim7.holds Tryd.pinned (.plain (OpenSpec.ofChange verifyRowsSpec)) verifyRowsCard

/-- THE TIED CARD OF 'covenantlaw13.VerifyMeets'. -/
def verifyMeetsCard : Claim7 := { stood := { row := verifyMeetsRow, standIns := [], harness := (true, "fad6c5e2caa190d9100d19385f7a42cfa2459f0e0adde6f311346a360551f82c"), looks := false }, kinds := [], alts := [], laidByText := true, laidKinds := [.data], laidTests := true, laidLooks := .later }
def VerifyMeetsCardSaid : Prop := Claim7.holds Tryd.pinned (.plain (OpenSpec.ofChange verifyMeetsSpec)) verifyMeetsCard

/-- THE SECOND FORM's CARD OF 'covenantlaw13.VerifyEach'. -/
def verifyEachUptoCard : Claim7 := { stood := { row := verifyEachUptoRow, standIns := [], harness := (true, "fad6c5e2caa190d9100d19385f7a42cfa2459f0e0adde6f311346a360551f82c"), looks := false }, kinds := [], alts := [], laidByText := true, laidKinds := [.data], laidTests := true, laidLooks := .later }
def VerifyEachUptoCardSaid : Prop := Claim7.holds Tryd.pinned (.plain (OpenSpec.upto verifyEachSpec)) verifyEachUptoCard

/-- THE SECOND FORM's CARD OF 'covenantlaw13.VerifyFalls'. -/
def verifyFallsUptoCard : Claim7 := { stood := { row := verifyFallsUptoRow, standIns := [], harness := (true, "fad6c5e2caa190d9100d19385f7a42cfa2459f0e0adde6f311346a360551f82c"), looks := false }, kinds := [], alts := [], laidByText := true, laidKinds := [.data], laidTests := true, laidLooks := .later }
def VerifyFallsUptoCardSaid : Prop := Claim7.holds Tryd.pinned (.plain (OpenSpec.upto verifyFallsSpec)) verifyFallsUptoCard

/-- THE SECOND FORM's CARD OF 'covenantlaw13.VerifyRows'. -/
def verifyRowsUptoCard : Claim7 := { stood := { row := verifyRowsUptoRow, standIns := [], harness := (true, "fad6c5e2caa190d9100d19385f7a42cfa2459f0e0adde6f311346a360551f82c"), looks := false }, kinds := [], alts := [], laidByText := true, laidKinds := [.data], laidTests := true, laidLooks := .later }
def VerifyRowsUptoCardSaid : Prop := Claim7.holds Tryd.pinned (.plain (OpenSpec.upto verifyRowsSpec)) verifyRowsUptoCard

/-- THE SECOND FORM's CARD OF 'covenantlaw13.VerifyMeets'. -/
def verifyMeetsUptoCard : Claim7 := { stood := { row := verifyMeetsUptoRow, standIns := [], harness := (true, "fad6c5e2caa190d9100d19385f7a42cfa2459f0e0adde6f311346a360551f82c"), looks := false }, kinds := [], alts := [], laidByText := true, laidKinds := [.data], laidTests := true, laidLooks := .later }
def VerifyMeetsUptoCardSaid : Prop := Claim7.holds Tryd.pinned (.plain (OpenSpec.upto verifyMeetsSpec)) verifyMeetsUptoCard
end Rows
end Go.Proofs.YtilmidjkjgeoeaaDoor
