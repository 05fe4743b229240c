/-
  DERIVED. GIVEN WITH THE SEED: THE CARDS: each row of YtoicncfpoklanaaDoorRows.lean that lists a variable, with what it lists TIED to the program's text (the seventh form; the later family's looks); each row that meets fmt, with fmt's text TOLD by the authors' own Lean function (tested against real Go, not proved from fmt's source: count such statements apart). THE CARD IS WHAT COUNTS. Prove the row's statement (the work); the ties are given (YtoicncfpoklanaaDoorTie.lean); close each card by the builder's one call (the guide's Derived/Test/ToyasCard.lean, 'card_holds'). Laid BY PROGRAM, IN A SANDBOX (cutbox-door.mjs). By AI agents, Wed Nov 11 2026. No macro, syntax, notation, axiom, sorry.
-/
import Derived.Test.YtoicncfpoklanaaDoorRows
import GoSem.ClaimSeven
namespace Go.Proofs.YtoicncfpoklanaaDoor
namespace Rows

/-- THE TIED CARD OF 'covenantlaw04.SyntaxBack'. -/
def syntaxBackCard : Claim7 := { stood := { row := syntaxBackRow, standIns := [], harness := (true, "f3a9836a9cc70e1da793318e4032e1e42b471ccca0a3697663007a59eb417807"), looks := true }, kinds := [], alts := [], laidByText := true, laidKinds := [.data, .data, .data, .data, .data], laidTests := true, laidLooks := .later }
def SyntaxBackCardSaid : Prop := Claim7.holds Tryd.pinned (.plain (OpenSpec.ofChange syntaxBackSpec)) syntaxBackCard

/-- THE TIED CARD OF 'covenantlaw04.SyntaxRow'. -/
def syntaxRowCard : Claim7 := { stood := { row := syntaxRowRow, standIns := [], harness := (true, "f3a9836a9cc70e1da793318e4032e1e42b471ccca0a3697663007a59eb417807"), looks := true }, kinds := [], alts := [], laidByText := true, laidKinds := [.data, .data, .data, .data, .data], laidTests := true, laidLooks := .later }
def SyntaxRowCardSaid : Prop := Claim7.holds Tryd.pinned (.plain (OpenSpec.ofChange syntaxRowSpec)) syntaxRowCard

/-- THE TIED CARD OF 'covenantlaw04.SyntaxCut'. -/
def syntaxCutCard : Claim7 := { stood := { row := syntaxCutRow, standIns := [], harness := (true, "f3a9836a9cc70e1da793318e4032e1e42b471ccca0a3697663007a59eb417807"), looks := true }, kinds := [], alts := [], laidByText := true, laidKinds := [.data, .data, .data, .data, .data], laidTests := true, laidLooks := .later }
def SyntaxCutCardSaid : Prop := Claim7.holds Tryd.pinned (.plain (OpenSpec.ofChange syntaxCutSpec)) syntaxCutCard

/-- THE TIED CARD OF 'covenantlaw04.SyntaxDeep'. -/
def syntaxDeepCard : Claim7 := { stood := { row := syntaxDeepRow, standIns := [], harness := (true, "f3a9836a9cc70e1da793318e4032e1e42b471ccca0a3697663007a59eb417807"), looks := true }, kinds := [], alts := [], laidByText := true, laidKinds := [.data, .data, .data, .data, .data], laidTests := true, laidLooks := .later }
def SyntaxDeepCardSaid : Prop := Claim7.holds Tryd.pinned (.plain (OpenSpec.ofChange syntaxDeepSpec)) syntaxDeepCard

/-- THE TIED CARD OF 'covenantlaw04.SyntaxOrder'. -/
def syntaxOrderCard : Claim7 := { stood := { row := syntaxOrderRow, standIns := [], harness := (true, "f3a9836a9cc70e1da793318e4032e1e42b471ccca0a3697663007a59eb417807"), looks := true }, kinds := [], alts := [], laidByText := true, laidKinds := [.data, .data, .data, .data, .data], laidTests := true, laidLooks := .later }
def SyntaxOrderCardSaid : Prop := Claim7.holds Tryd.pinned (.plain (OpenSpec.ofChange syntaxOrderSpec)) syntaxOrderCard

/-- THE SECOND FORM's CARD OF 'covenantlaw04.SyntaxBack'. -/
def syntaxBackUptoCard : Claim7 := { stood := { row := syntaxBackUptoRow, standIns := [], harness := (true, "f3a9836a9cc70e1da793318e4032e1e42b471ccca0a3697663007a59eb417807"), looks := true }, kinds := [], alts := [], laidByText := true, laidKinds := [.data, .data, .data, .data, .data], laidTests := true, laidLooks := .later }
def SyntaxBackUptoCardSaid : Prop := Claim7.holds Tryd.pinned (.plain (OpenSpec.upto syntaxBackSpec)) syntaxBackUptoCard

/-- THE SECOND FORM's CARD OF 'covenantlaw04.SyntaxRow'. -/
def syntaxRowUptoCard : Claim7 := { stood := { row := syntaxRowUptoRow, standIns := [], harness := (true, "f3a9836a9cc70e1da793318e4032e1e42b471ccca0a3697663007a59eb417807"), looks := true }, kinds := [], alts := [], laidByText := true, laidKinds := [.data, .data, .data, .data, .data], laidTests := true, laidLooks := .later }
def SyntaxRowUptoCardSaid : Prop := Claim7.holds Tryd.pinned (.plain (OpenSpec.upto syntaxRowSpec)) syntaxRowUptoCard

/-- THE SECOND FORM's CARD OF 'covenantlaw04.SyntaxCut'. -/
def syntaxCutUptoCard : Claim7 := { stood := { row := syntaxCutUptoRow, standIns := [], harness := (true, "f3a9836a9cc70e1da793318e4032e1e42b471ccca0a3697663007a59eb417807"), looks := true }, kinds := [], alts := [], laidByText := true, laidKinds := [.data, .data, .data, .data, .data], laidTests := true, laidLooks := .later }
def SyntaxCutUptoCardSaid : Prop := Claim7.holds Tryd.pinned (.plain (OpenSpec.upto syntaxCutSpec)) syntaxCutUptoCard

/-- THE SECOND FORM's CARD OF 'covenantlaw04.SyntaxDeep'. -/
def syntaxDeepUptoCard : Claim7 := { stood := { row := syntaxDeepUptoRow, standIns := [], harness := (true, "f3a9836a9cc70e1da793318e4032e1e42b471ccca0a3697663007a59eb417807"), looks := true }, kinds := [], alts := [], laidByText := true, laidKinds := [.data, .data, .data, .data, .data], laidTests := true, laidLooks := .later }
def SyntaxDeepUptoCardSaid : Prop := Claim7.holds Tryd.pinned (.plain (OpenSpec.upto syntaxDeepSpec)) syntaxDeepUptoCard

/-- THE SECOND FORM's CARD OF 'covenantlaw04.SyntaxOrder'. -/
def syntaxOrderUptoCard : Claim7 := { stood := { row := syntaxOrderUptoRow, standIns := [], harness := (true, "f3a9836a9cc70e1da793318e4032e1e42b471ccca0a3697663007a59eb417807"), looks := true }, kinds := [], alts := [], laidByText := true, laidKinds := [.data, .data, .data, .data, .data], laidTests := true, laidLooks := .later }
def SyntaxOrderUptoCardSaid : Prop := Claim7.holds Tryd.pinned (.plain (OpenSpec.upto syntaxOrderSpec)) syntaxOrderUptoCard
end Rows
end Go.Proofs.YtoicncfpoklanaaDoor
