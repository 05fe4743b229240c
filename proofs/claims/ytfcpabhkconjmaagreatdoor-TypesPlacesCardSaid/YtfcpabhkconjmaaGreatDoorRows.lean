/-
  NARROWER THAN 'FOR EVERY INPUT', by the rows' own cells (each row's printed sentence says how): SyntaxParses: laid · TypesMore: laid · TypesPlaces: loops, laid · TypesName: laid · TypesScope: laid · TypesCalls: laid.
  DERIVED. THE GIVEN ROWS OF THIS SEAT. 6 by the template 'for every input the law returns true; each argument reads behind the call as it read before'; 0 by the template 'total and deterministic' (their statements: YtfcpabhkconjmaaGreatDoorTotals.lean).
  GIVEN WITH THE SEED: the statements are not yours to turn. If you find one false, say at which input.
  Laid BY PROGRAM, IN A SANDBOX (cutbox-rows.mjs): the forced cells as the released guide's own fill.sh prints them over the translation 12ac060886609f74… (all of the seat's roots in one cut). By AI agents, Wed Nov 11 2026. No macro, syntax, notation, axiom, sorry.
-/
import Derived.Test.YtfcpabhkconjmaaGreatDoorChecked
import GoSem.Claim
import GoSem.ClaimJoined
import GoSem.ClaimMapViews
import Derived.JoinedTies
import Derived.KernelRfl
namespace Go.Proofs.YtfcpabhkconjmaaGreatDoor
/- THE CELL 'sum', in the pinned program and in every row, IS THE sha256 OF THE DUMP (.gsa) THAT YtfcpabhkconjmaaGreatDoorProg.lean LOADS. Nothing in Lean hashes anything: it is a label: what it is worth is what the hold of that sum in a sandbox is worth. -/
noncomputable def Tryz.pinned : Pinned := { name := "ytfcpabhkconjmaagreatdoor", sum := "12ac060886609f747f857e62d9ea5f8c6de11c337f0c83e43748227a27f34c98", checked := Tryz.checked }
namespace Rows
def none {H : Type} : Left H := { results := [], args := [] }

/- WHAT THE LISTED PACKAGE-LEVEL VARIABLES READ AS WHEN THE CALL BEGINS. Each datum BY PROGRAM (the guide's laid-datum.mjs) off the statement by which the dump's own 'gosem.cut.vars' lays the variable. In a bare row this is a premise. The card (YtfcpabhkconjmaaGreatDoorCards.lean) ties it to the program's text. -/
def laid_math_bits_deBruijn32tab {H : Type} : DataW H := .agg [.lit (.int .u8 0), .lit (.int .u8 1), .lit (.int .u8 28), .lit (.int .u8 2), .lit (.int .u8 29), .lit (.int .u8 14), .lit (.int .u8 24), .lit (.int .u8 3), .lit (.int .u8 30), .lit (.int .u8 22), .lit (.int .u8 20), .lit (.int .u8 15), .lit (.int .u8 25), .lit (.int .u8 17), .lit (.int .u8 4), .lit (.int .u8 8), .lit (.int .u8 31), .lit (.int .u8 27), .lit (.int .u8 13), .lit (.int .u8 23), .lit (.int .u8 21), .lit (.int .u8 19), .lit (.int .u8 16), .lit (.int .u8 7), .lit (.int .u8 26), .lit (.int .u8 12), .lit (.int .u8 18), .lit (.int .u8 6), .lit (.int .u8 11), .lit (.int .u8 5), .lit (.int .u8 10), .lit (.int .u8 9)]
def laid_math_bits_deBruijn64tab {H : Type} : DataW H := .agg [.lit (.int .u8 0), .lit (.int .u8 1), .lit (.int .u8 56), .lit (.int .u8 2), .lit (.int .u8 57), .lit (.int .u8 49), .lit (.int .u8 28), .lit (.int .u8 3), .lit (.int .u8 61), .lit (.int .u8 58), .lit (.int .u8 42), .lit (.int .u8 50), .lit (.int .u8 38), .lit (.int .u8 29), .lit (.int .u8 17), .lit (.int .u8 4), .lit (.int .u8 62), .lit (.int .u8 47), .lit (.int .u8 59), .lit (.int .u8 36), .lit (.int .u8 45), .lit (.int .u8 43), .lit (.int .u8 51), .lit (.int .u8 22), .lit (.int .u8 53), .lit (.int .u8 39), .lit (.int .u8 33), .lit (.int .u8 30), .lit (.int .u8 24), .lit (.int .u8 18), .lit (.int .u8 12), .lit (.int .u8 5), .lit (.int .u8 63), .lit (.int .u8 55), .lit (.int .u8 48), .lit (.int .u8 27), .lit (.int .u8 60), .lit (.int .u8 41), .lit (.int .u8 37), .lit (.int .u8 16), .lit (.int .u8 46), .lit (.int .u8 35), .lit (.int .u8 44), .lit (.int .u8 21), .lit (.int .u8 52), .lit (.int .u8 32), .lit (.int .u8 23), .lit (.int .u8 11), .lit (.int .u8 54), .lit (.int .u8 26), .lit (.int .u8 40), .lit (.int .u8 15), .lit (.int .u8 34), .lit (.int .u8 20), .lit (.int .u8 31), .lit (.int .u8 10), .lit (.int .u8 25), .lit (.int .u8 14), .lit (.int .u8 19), .lit (.int .u8 9), .lit (.int .u8 13), .lit (.int .u8 8), .lit (.int .u8 7), .lit (.int .u8 6)]
def laid_internal_strconv_uint64pow10 {H : Type} : DataW H := .agg [.lit (.int .u64 1), .lit (.int .u64 10), .lit (.int .u64 100), .lit (.int .u64 1000), .lit (.int .u64 10000), .lit (.int .u64 100000), .lit (.int .u64 1000000), .lit (.int .u64 10000000), .lit (.int .u64 100000000), .lit (.int .u64 1000000000), .lit (.int .u64 10000000000), .lit (.int .u64 100000000000), .lit (.int .u64 1000000000000), .lit (.int .u64 10000000000000), .lit (.int .u64 100000000000000), .lit (.int .u64 1000000000000000), .lit (.int .u64 10000000000000000), .lit (.int .u64 100000000000000000), .lit (.int .u64 1000000000000000000), .lit (.int .u64 10000000000000000000)]
def laid_covenant_token_keywords {H : Type} : DataW H := .agg [.lit (.string [102, 110]), .lit (.string [108, 101, 116]), .lit (.string [105, 102]), .lit (.string [101, 108, 115, 101]), .lit (.string [102, 111, 114]), .lit (.string [116, 111]), .lit (.string [114, 101, 116, 117, 114, 110]), .lit (.string [112, 117, 116]), .lit (.string [100, 101, 108]), .lit (.string [103, 101, 116]), .lit (.string [104, 97, 115]), .lit (.string [108, 101, 110]), .lit (.string [116, 114, 117, 101]), .lit (.string [102, 97, 108, 115, 101]), .lit (.string [105, 110, 116]), .lit (.string [98, 111, 111, 108]), .lit (.string [98, 121, 116, 101, 115])]
def laid_covenant_token_signs {H : Type} : DataW H := .agg [.lit (.string [61, 61]), .lit (.string [33, 61]), .lit (.string [60, 61]), .lit (.string [62, 61]), .lit (.string [38, 38]), .lit (.string [124, 124]), .lit (.string [40]), .lit (.string [41]), .lit (.string [123]), .lit (.string [125]), .lit (.string [44]), .lit (.string [59]), .lit (.string [58]), .lit (.string [61]), .lit (.string [60]), .lit (.string [62]), .lit (.string [43]), .lit (.string [45]), .lit (.string [42]), .lit (.string [47]), .lit (.string [37]), .lit (.string [33])]

/-- 'covenantlaw04.SyntaxParses': WHATEVER THE INPUT: true; the input reads as it did. -/
def syntaxParsesSpec : ChangeSpec := { name := "syntaxParses", fn := fun _ => fun
  | [d] => { results := [.lit (.bool true)], args := [d] }
  | _ => none }
def syntaxParsesRow : OpenClaim := { program := "ytfcpabhkconjmaagreatdoor", sum := "12ac060886609f747f857e62d9ea5f8c6de11c337f0c83e43748227a27f34c98", func := "covenant/covenantlaw04.SyntaxParses", spec := "syntaxParses", inPlace := ["internal/abi.NoEscape"], unfollowed := true, recurses := true, named := ["covenant/token.keywords", "covenant/token.signs", "internal/strconv.uint64pow10", "math/bits.deBruijn32tab", "math/bits.deBruijn64tab"], apart := false, laid := [("math/bits.deBruijn32tab", laid_math_bits_deBruijn32tab), ("math/bits.deBruijn64tab", laid_math_bits_deBruijn64tab), ("internal/strconv.uint64pow10", laid_internal_strconv_uint64pow10), ("covenant/token.keywords", laid_covenant_token_keywords), ("covenant/token.signs", laid_covenant_token_signs)] }
def SyntaxParsesSaid : Prop := syntaxParsesRow.holds Tryz.pinned (OpenSpec.ofChange syntaxParsesSpec)

/-- ITS FALSE NEIGHBOUR: 'it returns false'. Refute it at one input. -/
def syntaxParsesWrong : ChangeSpec := { name := "syntaxParses", fn := fun _ => fun
  | [d] => { results := [.lit (.bool false)], args := [d] }
  | _ => none }
def SyntaxParsesWrongFalsely : Prop := syntaxParsesRow.holds Tryz.pinned (OpenSpec.ofChange syntaxParsesWrong)

/-- 'covenantlaw05.TypesMore': WHATEVER THE INPUT: true; the input reads as it did. -/
def typesMoreSpec : ChangeSpec := { name := "typesMore", fn := fun _ => fun
  | [d1, d2] => { results := [.lit (.bool true)], args := [d1, d2] }
  | _ => none }
def typesMoreRow : OpenClaim := { program := "ytfcpabhkconjmaagreatdoor", sum := "12ac060886609f747f857e62d9ea5f8c6de11c337f0c83e43748227a27f34c98", func := "covenant/covenantlaw05.TypesMore", spec := "typesMore", inPlace := ["maps.clone"], unfollowed := true, recurses := true, named := ["covenant/token.keywords", "covenant/token.signs"], apart := false, laid := [("covenant/token.keywords", laid_covenant_token_keywords), ("covenant/token.signs", laid_covenant_token_signs)] }
def TypesMoreSaid : Prop := typesMoreRow.holds Tryz.pinned (OpenSpec.ofChange typesMoreSpec)

/-- ITS FALSE NEIGHBOUR: 'it returns false'. Refute it at one input. -/
def typesMoreWrong : ChangeSpec := { name := "typesMore", fn := fun _ => fun
  | [d1, d2] => { results := [.lit (.bool false)], args := [d1, d2] }
  | _ => none }
def TypesMoreWrongFalsely : Prop := typesMoreRow.holds Tryz.pinned (OpenSpec.ofChange typesMoreWrong)

/-- 'covenantlaw05.TypesPlaces': WHATEVER THE INPUT: true; the input reads as it did. -/
def typesPlacesSpec : ChangeSpec := { name := "typesPlaces", fn := fun _ => fun
  | [d] => { results := [.lit (.bool true)], args := [d] }
  | _ => none }
def typesPlacesRow : OpenClaim := { program := "ytfcpabhkconjmaagreatdoor", sum := "12ac060886609f747f857e62d9ea5f8c6de11c337f0c83e43748227a27f34c98", func := "covenant/covenantlaw05.TypesPlaces", spec := "typesPlaces", inPlace := ["maps.clone"], unfollowed := true, recurses := true, named := ["covenant/token.keywords", "covenant/token.signs"], loops := true, apart := false, laid := [("covenant/token.keywords", laid_covenant_token_keywords), ("covenant/token.signs", laid_covenant_token_signs)] }
def TypesPlacesSaid : Prop := typesPlacesRow.holds Tryz.pinned (OpenSpec.ofChange typesPlacesSpec)

/-- ITS FALSE NEIGHBOUR: 'it returns false'. Refute it at one input. -/
def typesPlacesWrong : ChangeSpec := { name := "typesPlaces", fn := fun _ => fun
  | [d] => { results := [.lit (.bool false)], args := [d] }
  | _ => none }
def TypesPlacesWrongFalsely : Prop := typesPlacesRow.holds Tryz.pinned (OpenSpec.ofChange typesPlacesWrong)

/-- 'covenantlaw05.TypesName': WHATEVER THE INPUT: true; the input reads as it did. -/
def typesNameSpec : ChangeSpec := { name := "typesName", fn := fun _ => fun
  | [d1, d2] => { results := [.lit (.bool true)], args := [d1, d2] }
  | _ => none }
def typesNameRow : OpenClaim := { program := "ytfcpabhkconjmaagreatdoor", sum := "12ac060886609f747f857e62d9ea5f8c6de11c337f0c83e43748227a27f34c98", func := "covenant/covenantlaw05.TypesName", spec := "typesName", inPlace := ["maps.clone"], unfollowed := true, recurses := true, named := ["covenant/token.keywords", "covenant/token.signs"], apart := false, laid := [("covenant/token.keywords", laid_covenant_token_keywords), ("covenant/token.signs", laid_covenant_token_signs)] }
def TypesNameSaid : Prop := typesNameRow.holds Tryz.pinned (OpenSpec.ofChange typesNameSpec)

/-- ITS FALSE NEIGHBOUR: 'it returns false'. Refute it at one input. -/
def typesNameWrong : ChangeSpec := { name := "typesName", fn := fun _ => fun
  | [d1, d2] => { results := [.lit (.bool false)], args := [d1, d2] }
  | _ => none }
def TypesNameWrongFalsely : Prop := typesNameRow.holds Tryz.pinned (OpenSpec.ofChange typesNameWrong)

/-- 'covenantlaw05.TypesScope': WHATEVER THE INPUT: true; the input reads as it did. -/
def typesScopeSpec : ChangeSpec := { name := "typesScope", fn := fun _ => fun
  | [d1, d2] => { results := [.lit (.bool true)], args := [d1, d2] }
  | _ => none }
def typesScopeRow : OpenClaim := { program := "ytfcpabhkconjmaagreatdoor", sum := "12ac060886609f747f857e62d9ea5f8c6de11c337f0c83e43748227a27f34c98", func := "covenant/covenantlaw05.TypesScope", spec := "typesScope", inPlace := ["maps.clone"], unfollowed := true, recurses := true, named := ["covenant/token.keywords", "covenant/token.signs"], apart := false, laid := [("covenant/token.keywords", laid_covenant_token_keywords), ("covenant/token.signs", laid_covenant_token_signs)] }
def TypesScopeSaid : Prop := typesScopeRow.holds Tryz.pinned (OpenSpec.ofChange typesScopeSpec)

/-- ITS FALSE NEIGHBOUR: 'it returns false'. Refute it at one input. -/
def typesScopeWrong : ChangeSpec := { name := "typesScope", fn := fun _ => fun
  | [d1, d2] => { results := [.lit (.bool false)], args := [d1, d2] }
  | _ => none }
def TypesScopeWrongFalsely : Prop := typesScopeRow.holds Tryz.pinned (OpenSpec.ofChange typesScopeWrong)

/-- 'covenantlaw05.TypesCalls': WHATEVER THE INPUT: true; the input reads as it did. -/
def typesCallsSpec : ChangeSpec := { name := "typesCalls", fn := fun _ => fun
  | [d1, d2] => { results := [.lit (.bool true)], args := [d1, d2] }
  | _ => none }
def typesCallsRow : OpenClaim := { program := "ytfcpabhkconjmaagreatdoor", sum := "12ac060886609f747f857e62d9ea5f8c6de11c337f0c83e43748227a27f34c98", func := "covenant/covenantlaw05.TypesCalls", spec := "typesCalls", inPlace := ["maps.clone"], unfollowed := true, recurses := true, named := ["covenant/token.keywords", "covenant/token.signs"], apart := false, laid := [("covenant/token.keywords", laid_covenant_token_keywords), ("covenant/token.signs", laid_covenant_token_signs)] }
def TypesCallsSaid : Prop := typesCallsRow.holds Tryz.pinned (OpenSpec.ofChange typesCallsSpec)

/-- ITS FALSE NEIGHBOUR: 'it returns false'. Refute it at one input. -/
def typesCallsWrong : ChangeSpec := { name := "typesCalls", fn := fun _ => fun
  | [d1, d2] => { results := [.lit (.bool false)], args := [d1, d2] }
  | _ => none }
def TypesCallsWrongFalsely : Prop := typesCallsRow.holds Tryz.pinned (OpenSpec.ofChange typesCallsWrong)

/- THE SECOND FORM. 'bulk': how many values and letters a reading holds, each counted each time it is reached (what is shared counts as often as it is met; a slice's spare places count too). A statement '..UptoSaid' is the law's where the arguments, and the package variables that the reading takes, are together of bulk at most 1048576: NARROWER than '..Said'. Prove '..Said' where nothing that the law and all that it calls make is longer than what came in: it says more and counts as full. Else prove '..UptoSaid'. A law counts once. -/
mutual
def uptoBulk {H : Type} : DataW H → Nat
  | .lit (.string bytes) => bytes.length + 1
  | .lit _ => 1
  | .nil => 1
  | .ptr d => uptoBulk d + 1
  | .slice elems spare => uptoBulkAll elems + uptoBulkAll spare + 1
  | .agg parts => uptoBulkAll parts + 1
  | .iface _ d => uptoBulk d + 1
  | .map entries => uptoBulkEntries entries + 1
  | .held _ => 1
def uptoBulkAll {H : Type} : List (DataW H) → Nat
  | [] => 0
  | d :: r => uptoBulk d + uptoBulkAll r
def uptoBulkEntries {H : Type} : List (Lit × DataW H) → Nat
  | [] => 0
  | x :: r => uptoBulkEntry x + uptoBulkEntries r
def uptoBulkEntry {H : Type} : Lit × DataW H → Nat
  | (.string bytes, d) => bytes.length + uptoBulk d + 1
  | (_, d) => uptoBulk d + 1
 end
def uptoSmall : (H : Type) → List (DataW H) → Bool := fun _ ds => decide (uptoBulkAll ds ≤ 1048576)
def OpenSpec.upto (s : _root_.Go.ChangeSpec) : _root_.Go.OpenSpec := { _root_.Go.OpenSpec.ofChange s with cond := some uptoSmall }

/-- 'covenantlaw04.SyntaxParses', WHERE WHAT IT READS IS OF BULK AT MOST 1048576: true; the input reads as it did. -/
def syntaxParsesUptoRow : OpenClaim := { program := "ytfcpabhkconjmaagreatdoor", sum := "12ac060886609f747f857e62d9ea5f8c6de11c337f0c83e43748227a27f34c98", func := "covenant/covenantlaw04.SyntaxParses", spec := "syntaxParses", inPlace := ["internal/abi.NoEscape"], unfollowed := true, recurses := true, named := ["covenant/token.keywords", "covenant/token.signs", "internal/strconv.uint64pow10", "math/bits.deBruijn32tab", "math/bits.deBruijn64tab"], apart := false, laid := [("math/bits.deBruijn32tab", laid_math_bits_deBruijn32tab), ("math/bits.deBruijn64tab", laid_math_bits_deBruijn64tab), ("internal/strconv.uint64pow10", laid_internal_strconv_uint64pow10), ("covenant/token.keywords", laid_covenant_token_keywords), ("covenant/token.signs", laid_covenant_token_signs)], narrowed := true }
def SyntaxParsesUptoSaid : Prop := syntaxParsesUptoRow.holds Tryz.pinned (OpenSpec.upto syntaxParsesSpec)

/-- 'covenantlaw05.TypesMore', WHERE WHAT IT READS IS OF BULK AT MOST 1048576: true; the input reads as it did. -/
def typesMoreUptoRow : OpenClaim := { program := "ytfcpabhkconjmaagreatdoor", sum := "12ac060886609f747f857e62d9ea5f8c6de11c337f0c83e43748227a27f34c98", func := "covenant/covenantlaw05.TypesMore", spec := "typesMore", inPlace := ["maps.clone"], unfollowed := true, recurses := true, named := ["covenant/token.keywords", "covenant/token.signs"], apart := false, laid := [("covenant/token.keywords", laid_covenant_token_keywords), ("covenant/token.signs", laid_covenant_token_signs)], narrowed := true }
def TypesMoreUptoSaid : Prop := typesMoreUptoRow.holds Tryz.pinned (OpenSpec.upto typesMoreSpec)

/-- 'covenantlaw05.TypesPlaces', WHERE WHAT IT READS IS OF BULK AT MOST 1048576: true; the input reads as it did. -/
def typesPlacesUptoRow : OpenClaim := { program := "ytfcpabhkconjmaagreatdoor", sum := "12ac060886609f747f857e62d9ea5f8c6de11c337f0c83e43748227a27f34c98", func := "covenant/covenantlaw05.TypesPlaces", spec := "typesPlaces", inPlace := ["maps.clone"], unfollowed := true, recurses := true, named := ["covenant/token.keywords", "covenant/token.signs"], loops := true, apart := false, laid := [("covenant/token.keywords", laid_covenant_token_keywords), ("covenant/token.signs", laid_covenant_token_signs)], narrowed := true }
def TypesPlacesUptoSaid : Prop := typesPlacesUptoRow.holds Tryz.pinned (OpenSpec.upto typesPlacesSpec)

/-- 'covenantlaw05.TypesName', WHERE WHAT IT READS IS OF BULK AT MOST 1048576: true; the input reads as it did. -/
def typesNameUptoRow : OpenClaim := { program := "ytfcpabhkconjmaagreatdoor", sum := "12ac060886609f747f857e62d9ea5f8c6de11c337f0c83e43748227a27f34c98", func := "covenant/covenantlaw05.TypesName", spec := "typesName", inPlace := ["maps.clone"], unfollowed := true, recurses := true, named := ["covenant/token.keywords", "covenant/token.signs"], apart := false, laid := [("covenant/token.keywords", laid_covenant_token_keywords), ("covenant/token.signs", laid_covenant_token_signs)], narrowed := true }
def TypesNameUptoSaid : Prop := typesNameUptoRow.holds Tryz.pinned (OpenSpec.upto typesNameSpec)

/-- 'covenantlaw05.TypesScope', WHERE WHAT IT READS IS OF BULK AT MOST 1048576: true; the input reads as it did. -/
def typesScopeUptoRow : OpenClaim := { program := "ytfcpabhkconjmaagreatdoor", sum := "12ac060886609f747f857e62d9ea5f8c6de11c337f0c83e43748227a27f34c98", func := "covenant/covenantlaw05.TypesScope", spec := "typesScope", inPlace := ["maps.clone"], unfollowed := true, recurses := true, named := ["covenant/token.keywords", "covenant/token.signs"], apart := false, laid := [("covenant/token.keywords", laid_covenant_token_keywords), ("covenant/token.signs", laid_covenant_token_signs)], narrowed := true }
def TypesScopeUptoSaid : Prop := typesScopeUptoRow.holds Tryz.pinned (OpenSpec.upto typesScopeSpec)

/-- 'covenantlaw05.TypesCalls', WHERE WHAT IT READS IS OF BULK AT MOST 1048576: true; the input reads as it did. -/
def typesCallsUptoRow : OpenClaim := { program := "ytfcpabhkconjmaagreatdoor", sum := "12ac060886609f747f857e62d9ea5f8c6de11c337f0c83e43748227a27f34c98", func := "covenant/covenantlaw05.TypesCalls", spec := "typesCalls", inPlace := ["maps.clone"], unfollowed := true, recurses := true, named := ["covenant/token.keywords", "covenant/token.signs"], apart := false, laid := [("covenant/token.keywords", laid_covenant_token_keywords), ("covenant/token.signs", laid_covenant_token_signs)], narrowed := true }
def TypesCallsUptoSaid : Prop := typesCallsUptoRow.holds Tryz.pinned (OpenSpec.upto typesCallsSpec)

end Rows
end Go.Proofs.YtfcpabhkconjmaaGreatDoor
