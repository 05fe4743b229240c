/-
  DERIVED. GIVEN WITH THE SEED: THE CARDS: each row of YtjilifodmmhnkaaDoorRows.lean that lists a variable, with what it lists TIED to the program's text (the seventh form; the later family's looks); each row that meets fmt, with fmt's text TOLD by the authors' own Lean function (tested against real Go, not proved from fmt's source: count such statements apart). THE CARD IS WHAT COUNTS. Prove the row's statement (the work); the ties are given (YtjilifodmmhnkaaDoorTie.lean); close each card by the builder's one call (the guide's Derived/Test/ToyasCard.lean, 'card_holds'). Laid BY PROGRAM, IN A SANDBOX (cutbox-door.mjs). By AI agents, Wed Nov 11 2026. No macro, syntax, notation, axiom, sorry.
-/
import Derived.Test.YtjilifodmmhnkaaDoorRows
import GoSem.ClaimSeven
namespace Go.Proofs.YtjilifodmmhnkaaDoor
namespace Rows

/-- THE TIED CARD OF 'covenantlaw02.SealTells'. -/
def sealTellsCard : Claim7 := { stood := { row := sealTellsRow, standIns := [], harness := (true, "e404a3f232cd41f55ab7ac00ecc4883259bbd39433e5efee3fb494f6ee9807b7"), looks := false }, kinds := [], alts := [], laidByText := true, laidKinds := [.data], laidTests := true, laidLooks := .later }
def SealTellsCardSaid : Prop := Claim7.holds Tryd.pinned (.plain (OpenSpec.ofChange sealTellsSpec)) sealTellsCard

/-- THE TIED CARD OF 'covenantlaw02.SealBack'. -/
def sealBackCard : Claim7 := { stood := { row := sealBackRow, standIns := [], harness := (true, "e404a3f232cd41f55ab7ac00ecc4883259bbd39433e5efee3fb494f6ee9807b7"), looks := false }, kinds := [], alts := [], laidByText := true, laidKinds := [.data], laidTests := true, laidLooks := .later }
def SealBackCardSaid : Prop := Claim7.holds Tryd.pinned (.plain (OpenSpec.ofChange sealBackSpec)) sealBackCard

/-- THE TIED CARD OF 'covenantlaw02.SealSpoilt'. -/
def sealSpoiltCard : Claim7 := { stood := { row := sealSpoiltRow, standIns := [], harness := (true, "e404a3f232cd41f55ab7ac00ecc4883259bbd39433e5efee3fb494f6ee9807b7"), looks := false }, kinds := [], alts := [], laidByText := true, laidKinds := [.data], laidTests := true, laidLooks := .later }
def SealSpoiltCardSaid : Prop := Claim7.holds Tryd.pinned (.plain (OpenSpec.ofChange sealSpoiltSpec)) sealSpoiltCard

/-- THE TIED CARD OF 'covenantlaw02.SealThree'. -/
def sealThreeCard : Claim7 := { stood := { row := sealThreeRow, standIns := [], harness := (true, "e404a3f232cd41f55ab7ac00ecc4883259bbd39433e5efee3fb494f6ee9807b7"), looks := false }, kinds := [], alts := [], laidByText := true, laidKinds := [.data], laidTests := true, laidLooks := .later }
def SealThreeCardSaid : Prop := Claim7.holds Tryd.pinned (.plain (OpenSpec.ofChange sealThreeSpec)) sealThreeCard

/-- THE TIED CARD OF 'covenantlaw02.SealOwn'. -/
def sealOwnCard : Claim7 := { stood := { row := sealOwnRow, standIns := [], harness := (true, "e404a3f232cd41f55ab7ac00ecc4883259bbd39433e5efee3fb494f6ee9807b7"), looks := false }, kinds := [], alts := [], laidByText := true, laidKinds := [.data], laidTests := true, laidLooks := .later }
def SealOwnCardSaid : Prop := Claim7.holds Tryd.pinned (.plain (OpenSpec.ofChange sealOwnSpec)) sealOwnCard

/-- THE TIED CARD OF 'covenantlaw02.SealShort'. -/
def sealShortCard : Claim7 := { stood := { row := sealShortRow, standIns := [], harness := (true, "e404a3f232cd41f55ab7ac00ecc4883259bbd39433e5efee3fb494f6ee9807b7"), looks := false }, kinds := [], alts := [], laidByText := true, laidKinds := [.data], laidTests := true, laidLooks := .later }
def SealShortCardSaid : Prop := Claim7.holds Tryd.pinned (.plain (OpenSpec.ofChange sealShortSpec)) sealShortCard

/-- THE SECOND FORM's CARD OF 'covenantlaw02.SealTells'. -/
def sealTellsUptoCard : Claim7 := { stood := { row := sealTellsUptoRow, standIns := [], harness := (true, "e404a3f232cd41f55ab7ac00ecc4883259bbd39433e5efee3fb494f6ee9807b7"), looks := false }, kinds := [], alts := [], laidByText := true, laidKinds := [.data], laidTests := true, laidLooks := .later }
def SealTellsUptoCardSaid : Prop := Claim7.holds Tryd.pinned (.plain (OpenSpec.upto sealTellsSpec)) sealTellsUptoCard

/-- THE SECOND FORM's CARD OF 'covenantlaw02.SealBack'. -/
def sealBackUptoCard : Claim7 := { stood := { row := sealBackUptoRow, standIns := [], harness := (true, "e404a3f232cd41f55ab7ac00ecc4883259bbd39433e5efee3fb494f6ee9807b7"), looks := false }, kinds := [], alts := [], laidByText := true, laidKinds := [.data], laidTests := true, laidLooks := .later }
def SealBackUptoCardSaid : Prop := Claim7.holds Tryd.pinned (.plain (OpenSpec.upto sealBackSpec)) sealBackUptoCard

/-- THE SECOND FORM's CARD OF 'covenantlaw02.SealSpoilt'. -/
def sealSpoiltUptoCard : Claim7 := { stood := { row := sealSpoiltUptoRow, standIns := [], harness := (true, "e404a3f232cd41f55ab7ac00ecc4883259bbd39433e5efee3fb494f6ee9807b7"), looks := false }, kinds := [], alts := [], laidByText := true, laidKinds := [.data], laidTests := true, laidLooks := .later }
def SealSpoiltUptoCardSaid : Prop := Claim7.holds Tryd.pinned (.plain (OpenSpec.upto sealSpoiltSpec)) sealSpoiltUptoCard

/-- THE SECOND FORM's CARD OF 'covenantlaw02.SealThree'. -/
def sealThreeUptoCard : Claim7 := { stood := { row := sealThreeUptoRow, standIns := [], harness := (true, "e404a3f232cd41f55ab7ac00ecc4883259bbd39433e5efee3fb494f6ee9807b7"), looks := false }, kinds := [], alts := [], laidByText := true, laidKinds := [.data], laidTests := true, laidLooks := .later }
def SealThreeUptoCardSaid : Prop := Claim7.holds Tryd.pinned (.plain (OpenSpec.upto sealThreeSpec)) sealThreeUptoCard

/-- THE SECOND FORM's CARD OF 'covenantlaw02.SealOwn'. -/
def sealOwnUptoCard : Claim7 := { stood := { row := sealOwnUptoRow, standIns := [], harness := (true, "e404a3f232cd41f55ab7ac00ecc4883259bbd39433e5efee3fb494f6ee9807b7"), looks := false }, kinds := [], alts := [], laidByText := true, laidKinds := [.data], laidTests := true, laidLooks := .later }
def SealOwnUptoCardSaid : Prop := Claim7.holds Tryd.pinned (.plain (OpenSpec.upto sealOwnSpec)) sealOwnUptoCard

/-- THE SECOND FORM's CARD OF 'covenantlaw02.SealShort'. -/
def sealShortUptoCard : Claim7 := { stood := { row := sealShortUptoRow, standIns := [], harness := (true, "e404a3f232cd41f55ab7ac00ecc4883259bbd39433e5efee3fb494f6ee9807b7"), looks := false }, kinds := [], alts := [], laidByText := true, laidKinds := [.data], laidTests := true, laidLooks := .later }
def SealShortUptoCardSaid : Prop := Claim7.holds Tryd.pinned (.plain (OpenSpec.upto sealShortSpec)) sealShortUptoCard
end Rows
end Go.Proofs.YtjilifodmmhnkaaDoor
