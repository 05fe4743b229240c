/-
  DERIVED. GIVEN WITH THE SEED: THE CARDS: each row of YtfcpabhkconjmaaGreatDoorRows.lean that lists a variable, with what it lists TIED to the program's text (the seventh form; the later family's looks); each row that meets fmt, with fmt's text TOLD by the authors' own Lean function (tested against real Go, not proved from fmt's source: count such statements apart). THE CARD IS WHAT COUNTS. Prove the row's statement (the work); the ties are given (YtfcpabhkconjmaaGreatDoorTie.lean); close each card by the builder's one call (the guide's Derived/Test/ToyasCard.lean, 'card_holds'). Laid BY PROGRAM, IN A SANDBOX (cutbox-door.mjs). By AI agents, Wed Nov 11 2026. No macro, syntax, notation, axiom, sorry.
-/
import Derived.Test.YtfcpabhkconjmaaGreatDoorRows
import GoSem.ClaimSeven
namespace Go.Proofs.YtfcpabhkconjmaaGreatDoor
namespace Rows

/-- THE TIED CARD OF 'covenantlaw04.SyntaxParses'. -/
def syntaxParsesCard : Claim7 := { stood := { row := syntaxParsesRow, standIns := [], harness := (true, "b232f612e25264babe71fccb371f78319ce5dbe4eefaeb47895315f605431fc5"), looks := true }, kinds := [], alts := [], laidByText := true, laidKinds := [.data, .data, .data, .data, .data], laidTests := true, laidLooks := .later }
def SyntaxParsesCardSaid : Prop := Claim7.holds Tryz.pinned (.plain (OpenSpec.ofChange syntaxParsesSpec)) syntaxParsesCard

/-- THE TIED CARD OF 'covenantlaw05.TypesMore'. -/
def typesMoreCard : Claim7 := { stood := { row := typesMoreRow, standIns := [], harness := (true, "b232f612e25264babe71fccb371f78319ce5dbe4eefaeb47895315f605431fc5"), looks := true }, kinds := [], alts := [], laidByText := true, laidKinds := [.data, .data], laidTests := true, laidLooks := .later }
def TypesMoreCardSaid : Prop := Claim7.holds Tryz.pinned (.plain (OpenSpec.ofChange typesMoreSpec)) typesMoreCard

/-- THE TIED CARD OF 'covenantlaw05.TypesPlaces'. -/
def typesPlacesCard : Claim7 := { stood := { row := typesPlacesRow, standIns := [], harness := (true, "b232f612e25264babe71fccb371f78319ce5dbe4eefaeb47895315f605431fc5"), looks := true }, kinds := [], alts := [], laidByText := true, laidKinds := [.data, .data], laidTests := true, laidLooks := .later }
def TypesPlacesCardSaid : Prop := Claim7.holds Tryz.pinned (.plain (OpenSpec.ofChange typesPlacesSpec)) typesPlacesCard

/-- THE TIED CARD OF 'covenantlaw05.TypesName'. -/
def typesNameCard : Claim7 := { stood := { row := typesNameRow, standIns := [], harness := (true, "b232f612e25264babe71fccb371f78319ce5dbe4eefaeb47895315f605431fc5"), looks := true }, kinds := [], alts := [], laidByText := true, laidKinds := [.data, .data], laidTests := true, laidLooks := .later }
def TypesNameCardSaid : Prop := Claim7.holds Tryz.pinned (.plain (OpenSpec.ofChange typesNameSpec)) typesNameCard

/-- THE TIED CARD OF 'covenantlaw05.TypesScope'. -/
def typesScopeCard : Claim7 := { stood := { row := typesScopeRow, standIns := [], harness := (true, "b232f612e25264babe71fccb371f78319ce5dbe4eefaeb47895315f605431fc5"), looks := true }, kinds := [], alts := [], laidByText := true, laidKinds := [.data, .data], laidTests := true, laidLooks := .later }
def TypesScopeCardSaid : Prop := Claim7.holds Tryz.pinned (.plain (OpenSpec.ofChange typesScopeSpec)) typesScopeCard

/-- THE TIED CARD OF 'covenantlaw05.TypesCalls'. -/
def typesCallsCard : Claim7 := { stood := { row := typesCallsRow, standIns := [], harness := (true, "b232f612e25264babe71fccb371f78319ce5dbe4eefaeb47895315f605431fc5"), looks := true }, kinds := [], alts := [], laidByText := true, laidKinds := [.data, .data], laidTests := true, laidLooks := .later }
def TypesCallsCardSaid : Prop := Claim7.holds Tryz.pinned (.plain (OpenSpec.ofChange typesCallsSpec)) typesCallsCard

/-- THE SECOND FORM's CARD OF 'covenantlaw04.SyntaxParses'. -/
def syntaxParsesUptoCard : Claim7 := { stood := { row := syntaxParsesUptoRow, standIns := [], harness := (true, "b232f612e25264babe71fccb371f78319ce5dbe4eefaeb47895315f605431fc5"), looks := true }, kinds := [], alts := [], laidByText := true, laidKinds := [.data, .data, .data, .data, .data], laidTests := true, laidLooks := .later }
def SyntaxParsesUptoCardSaid : Prop := Claim7.holds Tryz.pinned (.plain (OpenSpec.upto syntaxParsesSpec)) syntaxParsesUptoCard

/-- THE SECOND FORM's CARD OF 'covenantlaw05.TypesMore'. -/
def typesMoreUptoCard : Claim7 := { stood := { row := typesMoreUptoRow, standIns := [], harness := (true, "b232f612e25264babe71fccb371f78319ce5dbe4eefaeb47895315f605431fc5"), looks := true }, kinds := [], alts := [], laidByText := true, laidKinds := [.data, .data], laidTests := true, laidLooks := .later }
def TypesMoreUptoCardSaid : Prop := Claim7.holds Tryz.pinned (.plain (OpenSpec.upto typesMoreSpec)) typesMoreUptoCard

/-- THE SECOND FORM's CARD OF 'covenantlaw05.TypesPlaces'. -/
def typesPlacesUptoCard : Claim7 := { stood := { row := typesPlacesUptoRow, standIns := [], harness := (true, "b232f612e25264babe71fccb371f78319ce5dbe4eefaeb47895315f605431fc5"), looks := true }, kinds := [], alts := [], laidByText := true, laidKinds := [.data, .data], laidTests := true, laidLooks := .later }
def TypesPlacesUptoCardSaid : Prop := Claim7.holds Tryz.pinned (.plain (OpenSpec.upto typesPlacesSpec)) typesPlacesUptoCard

/-- THE SECOND FORM's CARD OF 'covenantlaw05.TypesName'. -/
def typesNameUptoCard : Claim7 := { stood := { row := typesNameUptoRow, standIns := [], harness := (true, "b232f612e25264babe71fccb371f78319ce5dbe4eefaeb47895315f605431fc5"), looks := true }, kinds := [], alts := [], laidByText := true, laidKinds := [.data, .data], laidTests := true, laidLooks := .later }
def TypesNameUptoCardSaid : Prop := Claim7.holds Tryz.pinned (.plain (OpenSpec.upto typesNameSpec)) typesNameUptoCard

/-- THE SECOND FORM's CARD OF 'covenantlaw05.TypesScope'. -/
def typesScopeUptoCard : Claim7 := { stood := { row := typesScopeUptoRow, standIns := [], harness := (true, "b232f612e25264babe71fccb371f78319ce5dbe4eefaeb47895315f605431fc5"), looks := true }, kinds := [], alts := [], laidByText := true, laidKinds := [.data, .data], laidTests := true, laidLooks := .later }
def TypesScopeUptoCardSaid : Prop := Claim7.holds Tryz.pinned (.plain (OpenSpec.upto typesScopeSpec)) typesScopeUptoCard

/-- THE SECOND FORM's CARD OF 'covenantlaw05.TypesCalls'. -/
def typesCallsUptoCard : Claim7 := { stood := { row := typesCallsUptoRow, standIns := [], harness := (true, "b232f612e25264babe71fccb371f78319ce5dbe4eefaeb47895315f605431fc5"), looks := true }, kinds := [], alts := [], laidByText := true, laidKinds := [.data, .data], laidTests := true, laidLooks := .later }
def TypesCallsUptoCardSaid : Prop := Claim7.holds Tryz.pinned (.plain (OpenSpec.upto typesCallsSpec)) typesCallsUptoCard
end Rows
end Go.Proofs.YtfcpabhkconjmaaGreatDoor
