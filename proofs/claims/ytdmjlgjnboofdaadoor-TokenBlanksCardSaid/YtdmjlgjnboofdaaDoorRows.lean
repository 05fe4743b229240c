/-
  NARROWER THAN 'FOR EVERY INPUT', by the rows' own cells (each row's printed sentence says how): TokenLexes: laid · TokenPlaces: laid · TokenBlanks: laid · TokenNumbers: laid · TokenWords: laid · TokenTexts: laid.
  DERIVED. THE GIVEN ROWS OF THIS SEAT. 6 by the template 'for every input the law returns true; each argument reads behind the call as it read before'; 0 by the template 'total and deterministic' (their statements: YtdmjlgjnboofdaaDoorTotals.lean).
  GIVEN WITH THE SEED: the statements are not yours to turn. If you find one false, say at which input.
  Laid BY PROGRAM, IN A SANDBOX (cutbox-rows.mjs): the forced cells as the released guide's own fill.sh prints them over the translation 74011dfd1c22a87a… (all of the seat's roots in one cut). By AI agents, Wed Nov 11 2026. No macro, syntax, notation, axiom, sorry.
-/
import Derived.Test.YtdmjlgjnboofdaaDoorChecked
import GoSem.Claim
import GoSem.ClaimJoined
import GoSem.ClaimMapViews
import Derived.JoinedTies
import Derived.KernelRfl
namespace Go.Proofs.YtdmjlgjnboofdaaDoor
/- THE CELL 'sum', in the pinned program and in every row, IS THE sha256 OF THE DUMP (.gsa) THAT YtdmjlgjnboofdaaDoorProg.lean LOADS. Nothing in Lean hashes anything: it is a label: what it is worth is what the hold of that sum in a sandbox is worth. -/
noncomputable def Tryd.pinned : Pinned := { name := "ytdmjlgjnboofdaadoor", sum := "74011dfd1c22a87acf1e9ee4d3ddfc08198238eed6929aec0a8bc655b81c8e79", checked := Tryd.checked }
namespace Rows
def none {H : Type} : Left H := { results := [], args := [] }

/- WHAT THE LISTED PACKAGE-LEVEL VARIABLES READ AS WHEN THE CALL BEGINS. Each datum BY PROGRAM (the guide's laid-datum.mjs) off the statement by which the dump's own 'gosem.cut.vars' lays the variable. In a bare row this is a premise. The card (YtdmjlgjnboofdaaDoorCards.lean) ties it to the program's text. -/
def laid_covenant_token_keywords {H : Type} : DataW H := .agg [.lit (.string [102, 110]), .lit (.string [108, 101, 116]), .lit (.string [105, 102]), .lit (.string [101, 108, 115, 101]), .lit (.string [102, 111, 114]), .lit (.string [116, 111]), .lit (.string [114, 101, 116, 117, 114, 110]), .lit (.string [112, 117, 116]), .lit (.string [100, 101, 108]), .lit (.string [103, 101, 116]), .lit (.string [104, 97, 115]), .lit (.string [108, 101, 110]), .lit (.string [116, 114, 117, 101]), .lit (.string [102, 97, 108, 115, 101]), .lit (.string [105, 110, 116]), .lit (.string [98, 111, 111, 108]), .lit (.string [98, 121, 116, 101, 115])]
def laid_covenant_token_signs {H : Type} : DataW H := .agg [.lit (.string [61, 61]), .lit (.string [33, 61]), .lit (.string [60, 61]), .lit (.string [62, 61]), .lit (.string [38, 38]), .lit (.string [124, 124]), .lit (.string [40]), .lit (.string [41]), .lit (.string [123]), .lit (.string [125]), .lit (.string [44]), .lit (.string [59]), .lit (.string [58]), .lit (.string [61]), .lit (.string [60]), .lit (.string [62]), .lit (.string [43]), .lit (.string [45]), .lit (.string [42]), .lit (.string [47]), .lit (.string [37]), .lit (.string [33])]

/-- 'covenantlaw03.TokenLexes': WHATEVER THE INPUT: true; the input reads as it did. -/
def tokenLexesSpec : ChangeSpec := { name := "tokenLexes", fn := fun _ => fun
  | [d1, d2] => { results := [.lit (.bool true)], args := [d1, d2] }
  | _ => none }
def tokenLexesRow : OpenClaim := { program := "ytdmjlgjnboofdaadoor", sum := "74011dfd1c22a87acf1e9ee4d3ddfc08198238eed6929aec0a8bc655b81c8e79", func := "covenant/covenantlaw03.TokenLexes", spec := "tokenLexes", unfollowed := true, recurses := true, named := ["covenant/token.keywords", "covenant/token.signs"], apart := false, laid := [("covenant/token.keywords", laid_covenant_token_keywords), ("covenant/token.signs", laid_covenant_token_signs)] }
def TokenLexesSaid : Prop := tokenLexesRow.holds Tryd.pinned (OpenSpec.ofChange tokenLexesSpec)

/-- ITS FALSE NEIGHBOUR: 'it returns false'. Refute it at one input. -/
def tokenLexesWrong : ChangeSpec := { name := "tokenLexes", fn := fun _ => fun
  | [d1, d2] => { results := [.lit (.bool false)], args := [d1, d2] }
  | _ => none }
def TokenLexesWrongFalsely : Prop := tokenLexesRow.holds Tryd.pinned (OpenSpec.ofChange tokenLexesWrong)

/-- 'covenantlaw03.TokenPlaces': WHATEVER THE INPUT: true; the input reads as it did. -/
def tokenPlacesSpec : ChangeSpec := { name := "tokenPlaces", fn := fun _ => fun
  | [d] => { results := [.lit (.bool true)], args := [d] }
  | _ => none }
def tokenPlacesRow : OpenClaim := { program := "ytdmjlgjnboofdaadoor", sum := "74011dfd1c22a87acf1e9ee4d3ddfc08198238eed6929aec0a8bc655b81c8e79", func := "covenant/covenantlaw03.TokenPlaces", spec := "tokenPlaces", unfollowed := true, recurses := true, named := ["covenant/token.keywords", "covenant/token.signs"], apart := false, laid := [("covenant/token.keywords", laid_covenant_token_keywords), ("covenant/token.signs", laid_covenant_token_signs)] }
def TokenPlacesSaid : Prop := tokenPlacesRow.holds Tryd.pinned (OpenSpec.ofChange tokenPlacesSpec)

/-- ITS FALSE NEIGHBOUR: 'it returns false'. Refute it at one input. -/
def tokenPlacesWrong : ChangeSpec := { name := "tokenPlaces", fn := fun _ => fun
  | [d] => { results := [.lit (.bool false)], args := [d] }
  | _ => none }
def TokenPlacesWrongFalsely : Prop := tokenPlacesRow.holds Tryd.pinned (OpenSpec.ofChange tokenPlacesWrong)

/-- 'covenantlaw03.TokenBlanks': WHATEVER THE INPUT: true; the input reads as it did. -/
def tokenBlanksSpec : ChangeSpec := { name := "tokenBlanks", fn := fun _ => fun
  | [d1, d2, d3] => { results := [.lit (.bool true)], args := [d1, d2, d3] }
  | _ => none }
def tokenBlanksRow : OpenClaim := { program := "ytdmjlgjnboofdaadoor", sum := "74011dfd1c22a87acf1e9ee4d3ddfc08198238eed6929aec0a8bc655b81c8e79", func := "covenant/covenantlaw03.TokenBlanks", spec := "tokenBlanks", unfollowed := true, recurses := true, named := ["covenant/token.keywords", "covenant/token.signs"], apart := false, laid := [("covenant/token.keywords", laid_covenant_token_keywords), ("covenant/token.signs", laid_covenant_token_signs)] }
def TokenBlanksSaid : Prop := tokenBlanksRow.holds Tryd.pinned (OpenSpec.ofChange tokenBlanksSpec)

/-- ITS FALSE NEIGHBOUR: 'it returns false'. Refute it at one input. -/
def tokenBlanksWrong : ChangeSpec := { name := "tokenBlanks", fn := fun _ => fun
  | [d1, d2, d3] => { results := [.lit (.bool false)], args := [d1, d2, d3] }
  | _ => none }
def TokenBlanksWrongFalsely : Prop := tokenBlanksRow.holds Tryd.pinned (OpenSpec.ofChange tokenBlanksWrong)

/-- 'covenantlaw03.TokenNumbers': WHATEVER THE INPUT: true; the input reads as it did. -/
def tokenNumbersSpec : ChangeSpec := { name := "tokenNumbers", fn := fun _ => fun
  | [d1, d2] => { results := [.lit (.bool true)], args := [d1, d2] }
  | _ => none }
def tokenNumbersRow : OpenClaim := { program := "ytdmjlgjnboofdaadoor", sum := "74011dfd1c22a87acf1e9ee4d3ddfc08198238eed6929aec0a8bc655b81c8e79", func := "covenant/covenantlaw03.TokenNumbers", spec := "tokenNumbers", unfollowed := true, recurses := true, named := ["covenant/token.keywords", "covenant/token.signs"], apart := false, laid := [("covenant/token.keywords", laid_covenant_token_keywords), ("covenant/token.signs", laid_covenant_token_signs)] }
def TokenNumbersSaid : Prop := tokenNumbersRow.holds Tryd.pinned (OpenSpec.ofChange tokenNumbersSpec)

/-- ITS FALSE NEIGHBOUR: 'it returns false'. Refute it at one input. -/
def tokenNumbersWrong : ChangeSpec := { name := "tokenNumbers", fn := fun _ => fun
  | [d1, d2] => { results := [.lit (.bool false)], args := [d1, d2] }
  | _ => none }
def TokenNumbersWrongFalsely : Prop := tokenNumbersRow.holds Tryd.pinned (OpenSpec.ofChange tokenNumbersWrong)

/-- 'covenantlaw03.TokenWords': WHATEVER THE INPUT: true; the input reads as it did. -/
def tokenWordsSpec : ChangeSpec := { name := "tokenWords", fn := fun _ => fun
  | [d] => { results := [.lit (.bool true)], args := [d] }
  | _ => none }
def tokenWordsRow : OpenClaim := { program := "ytdmjlgjnboofdaadoor", sum := "74011dfd1c22a87acf1e9ee4d3ddfc08198238eed6929aec0a8bc655b81c8e79", func := "covenant/covenantlaw03.TokenWords", spec := "tokenWords", unfollowed := true, recurses := true, named := ["covenant/token.keywords", "covenant/token.signs"], apart := false, laid := [("covenant/token.keywords", laid_covenant_token_keywords), ("covenant/token.signs", laid_covenant_token_signs)] }
def TokenWordsSaid : Prop := tokenWordsRow.holds Tryd.pinned (OpenSpec.ofChange tokenWordsSpec)

/-- ITS FALSE NEIGHBOUR: 'it returns false'. Refute it at one input. -/
def tokenWordsWrong : ChangeSpec := { name := "tokenWords", fn := fun _ => fun
  | [d] => { results := [.lit (.bool false)], args := [d] }
  | _ => none }
def TokenWordsWrongFalsely : Prop := tokenWordsRow.holds Tryd.pinned (OpenSpec.ofChange tokenWordsWrong)

/-- 'covenantlaw03.TokenTexts': WHATEVER THE INPUT: true; the input reads as it did. -/
def tokenTextsSpec : ChangeSpec := { name := "tokenTexts", fn := fun _ => fun
  | [d1, d2] => { results := [.lit (.bool true)], args := [d1, d2] }
  | _ => none }
def tokenTextsRow : OpenClaim := { program := "ytdmjlgjnboofdaadoor", sum := "74011dfd1c22a87acf1e9ee4d3ddfc08198238eed6929aec0a8bc655b81c8e79", func := "covenant/covenantlaw03.TokenTexts", spec := "tokenTexts", unfollowed := true, recurses := true, named := ["covenant/token.keywords", "covenant/token.signs"], apart := false, laid := [("covenant/token.keywords", laid_covenant_token_keywords), ("covenant/token.signs", laid_covenant_token_signs)] }
def TokenTextsSaid : Prop := tokenTextsRow.holds Tryd.pinned (OpenSpec.ofChange tokenTextsSpec)

/-- ITS FALSE NEIGHBOUR: 'it returns false'. Refute it at one input. -/
def tokenTextsWrong : ChangeSpec := { name := "tokenTexts", fn := fun _ => fun
  | [d1, d2] => { results := [.lit (.bool false)], args := [d1, d2] }
  | _ => none }
def TokenTextsWrongFalsely : Prop := tokenTextsRow.holds Tryd.pinned (OpenSpec.ofChange tokenTextsWrong)

/- THE SECOND FORM. 'bulk': how many values and letters a reading holds, each counted each time it is reached (what is shared counts as often as it is met; a slice's spare places count too). A statement '..UptoSaid' is the law's where the arguments, and the package variables that the reading takes, are together of bulk at most 1048576: NARROWER than '..Said'. Prove '..Said' where nothing that the law and all that it calls make is longer than what came in: it says more and counts as full. Else prove '..UptoSaid'. A law counts once. -/
mutual
def uptoBulk {H : Type} : DataW H → Nat
  | .lit (.string bytes) => bytes.length + 1
  | .lit _ => 1
  | .nil => 1
  | .ptr d => uptoBulk d + 1
  | .slice elems spare => uptoBulkAll elems + uptoBulkAll spare + 1
  | .agg parts => uptoBulkAll parts + 1
  | .iface _ d => uptoBulk d + 1
  | .map entries => uptoBulkEntries entries + 1
  | .held _ => 1
def uptoBulkAll {H : Type} : List (DataW H) → Nat
  | [] => 0
  | d :: r => uptoBulk d + uptoBulkAll r
def uptoBulkEntries {H : Type} : List (Lit × DataW H) → Nat
  | [] => 0
  | x :: r => uptoBulkEntry x + uptoBulkEntries r
def uptoBulkEntry {H : Type} : Lit × DataW H → Nat
  | (.string bytes, d) => bytes.length + uptoBulk d + 1
  | (_, d) => uptoBulk d + 1
 end
def uptoSmall : (H : Type) → List (DataW H) → Bool := fun _ ds => decide (uptoBulkAll ds ≤ 1048576)
def OpenSpec.upto (s : _root_.Go.ChangeSpec) : _root_.Go.OpenSpec := { _root_.Go.OpenSpec.ofChange s with cond := some uptoSmall }

/-- 'covenantlaw03.TokenLexes', WHERE WHAT IT READS IS OF BULK AT MOST 1048576: true; the input reads as it did. -/
def tokenLexesUptoRow : OpenClaim := { program := "ytdmjlgjnboofdaadoor", sum := "74011dfd1c22a87acf1e9ee4d3ddfc08198238eed6929aec0a8bc655b81c8e79", func := "covenant/covenantlaw03.TokenLexes", spec := "tokenLexes", unfollowed := true, recurses := true, named := ["covenant/token.keywords", "covenant/token.signs"], apart := false, laid := [("covenant/token.keywords", laid_covenant_token_keywords), ("covenant/token.signs", laid_covenant_token_signs)], narrowed := true }
def TokenLexesUptoSaid : Prop := tokenLexesUptoRow.holds Tryd.pinned (OpenSpec.upto tokenLexesSpec)

/-- 'covenantlaw03.TokenPlaces', WHERE WHAT IT READS IS OF BULK AT MOST 1048576: true; the input reads as it did. -/
def tokenPlacesUptoRow : OpenClaim := { program := "ytdmjlgjnboofdaadoor", sum := "74011dfd1c22a87acf1e9ee4d3ddfc08198238eed6929aec0a8bc655b81c8e79", func := "covenant/covenantlaw03.TokenPlaces", spec := "tokenPlaces", unfollowed := true, recurses := true, named := ["covenant/token.keywords", "covenant/token.signs"], apart := false, laid := [("covenant/token.keywords", laid_covenant_token_keywords), ("covenant/token.signs", laid_covenant_token_signs)], narrowed := true }
def TokenPlacesUptoSaid : Prop := tokenPlacesUptoRow.holds Tryd.pinned (OpenSpec.upto tokenPlacesSpec)

/-- 'covenantlaw03.TokenBlanks', WHERE WHAT IT READS IS OF BULK AT MOST 1048576: true; the input reads as it did. -/
def tokenBlanksUptoRow : OpenClaim := { program := "ytdmjlgjnboofdaadoor", sum := "74011dfd1c22a87acf1e9ee4d3ddfc08198238eed6929aec0a8bc655b81c8e79", func := "covenant/covenantlaw03.TokenBlanks", spec := "tokenBlanks", unfollowed := true, recurses := true, named := ["covenant/token.keywords", "covenant/token.signs"], apart := false, laid := [("covenant/token.keywords", laid_covenant_token_keywords), ("covenant/token.signs", laid_covenant_token_signs)], narrowed := true }
def TokenBlanksUptoSaid : Prop := tokenBlanksUptoRow.holds Tryd.pinned (OpenSpec.upto tokenBlanksSpec)

/-- 'covenantlaw03.TokenNumbers', WHERE WHAT IT READS IS OF BULK AT MOST 1048576: true; the input reads as it did. -/
def tokenNumbersUptoRow : OpenClaim := { program := "ytdmjlgjnboofdaadoor", sum := "74011dfd1c22a87acf1e9ee4d3ddfc08198238eed6929aec0a8bc655b81c8e79", func := "covenant/covenantlaw03.TokenNumbers", spec := "tokenNumbers", unfollowed := true, recurses := true, named := ["covenant/token.keywords", "covenant/token.signs"], apart := false, laid := [("covenant/token.keywords", laid_covenant_token_keywords), ("covenant/token.signs", laid_covenant_token_signs)], narrowed := true }
def TokenNumbersUptoSaid : Prop := tokenNumbersUptoRow.holds Tryd.pinned (OpenSpec.upto tokenNumbersSpec)

/-- 'covenantlaw03.TokenWords', WHERE WHAT IT READS IS OF BULK AT MOST 1048576: true; the input reads as it did. -/
def tokenWordsUptoRow : OpenClaim := { program := "ytdmjlgjnboofdaadoor", sum := "74011dfd1c22a87acf1e9ee4d3ddfc08198238eed6929aec0a8bc655b81c8e79", func := "covenant/covenantlaw03.TokenWords", spec := "tokenWords", unfollowed := true, recurses := true, named := ["covenant/token.keywords", "covenant/token.signs"], apart := false, laid := [("covenant/token.keywords", laid_covenant_token_keywords), ("covenant/token.signs", laid_covenant_token_signs)], narrowed := true }
def TokenWordsUptoSaid : Prop := tokenWordsUptoRow.holds Tryd.pinned (OpenSpec.upto tokenWordsSpec)

/-- 'covenantlaw03.TokenTexts', WHERE WHAT IT READS IS OF BULK AT MOST 1048576: true; the input reads as it did. -/
def tokenTextsUptoRow : OpenClaim := { program := "ytdmjlgjnboofdaadoor", sum := "74011dfd1c22a87acf1e9ee4d3ddfc08198238eed6929aec0a8bc655b81c8e79", func := "covenant/covenantlaw03.TokenTexts", spec := "tokenTexts", unfollowed := true, recurses := true, named := ["covenant/token.keywords", "covenant/token.signs"], apart := false, laid := [("covenant/token.keywords", laid_covenant_token_keywords), ("covenant/token.signs", laid_covenant_token_signs)], narrowed := true }
def TokenTextsUptoSaid : Prop := tokenTextsUptoRow.holds Tryd.pinned (OpenSpec.upto tokenTextsSpec)

end Rows
end Go.Proofs.YtdmjlgjnboofdaaDoor
