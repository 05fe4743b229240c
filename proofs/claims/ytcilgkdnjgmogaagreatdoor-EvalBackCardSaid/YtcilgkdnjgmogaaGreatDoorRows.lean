/-
  NARROWER THAN 'FOR EVERY INPUT', by the rows' own cells (each row's printed sentence says how): SyntaxParses: laid · EvalRuns: loops, laid · EvalBack: laid · EvalGas: laid · EvalLoops: laid · EvalDeep: laid · EvalSigns: laid · EvalKeeps: laid.
  DERIVED. THE GIVEN ROWS OF THIS SEAT. 8 by the template 'for every input the law returns true; each argument reads behind the call as it read before'; 0 by the template 'total and deterministic' (their statements: YtcilgkdnjgmogaaGreatDoorTotals.lean).
  GIVEN WITH THE SEED: the statements are not yours to turn. If you find one false, say at which input.
  Laid BY PROGRAM, IN A SANDBOX (cutbox-rows.mjs): the forced cells as the released guide's own fill.sh prints them over the translation f22a4c33d3fc4acb… (all of the seat's roots in one cut). By AI agents, Wed Nov 11 2026. No macro, syntax, notation, axiom, sorry.
-/
import Derived.Test.YtcilgkdnjgmogaaGreatDoorChecked
import GoSem.Claim
import GoSem.ClaimJoined
import GoSem.ClaimMapViews
import Derived.JoinedTies
import Derived.KernelRfl
namespace Go.Proofs.YtcilgkdnjgmogaaGreatDoor
/- THE CELL 'sum', in the pinned program and in every row, IS THE sha256 OF THE DUMP (.gsa) THAT YtcilgkdnjgmogaaGreatDoorProg.lean LOADS. Nothing in Lean hashes anything: it is a label: what it is worth is what the hold of that sum in a sandbox is worth. -/
noncomputable def Tryz.pinned : Pinned := { name := "ytcilgkdnjgmogaagreatdoor", sum := "f22a4c33d3fc4acb0484c6af64ecbc77b84e3cf797d3ce320cfb8e4346683848", checked := Tryz.checked }
namespace Rows
def none {H : Type} : Left H := { results := [], args := [] }

/- WHAT THE LISTED PACKAGE-LEVEL VARIABLES READ AS WHEN THE CALL BEGINS. Each datum BY PROGRAM (the guide's laid-datum.mjs) off the statement by which the dump's own 'gosem.cut.vars' lays the variable. In a bare row this is a premise. The card (YtcilgkdnjgmogaaGreatDoorCards.lean) ties it to the program's text. -/
def laid_math_bits_deBruijn32tab {H : Type} : DataW H := .agg [.lit (.int .u8 0), .lit (.int .u8 1), .lit (.int .u8 28), .lit (.int .u8 2), .lit (.int .u8 29), .lit (.int .u8 14), .lit (.int .u8 24), .lit (.int .u8 3), .lit (.int .u8 30), .lit (.int .u8 22), .lit (.int .u8 20), .lit (.int .u8 15), .lit (.int .u8 25), .lit (.int .u8 17), .lit (.int .u8 4), .lit (.int .u8 8), .lit (.int .u8 31), .lit (.int .u8 27), .lit (.int .u8 13), .lit (.int .u8 23), .lit (.int .u8 21), .lit (.int .u8 19), .lit (.int .u8 16), .lit (.int .u8 7), .lit (.int .u8 26), .lit (.int .u8 12), .lit (.int .u8 18), .lit (.int .u8 6), .lit (.int .u8 11), .lit (.int .u8 5), .lit (.int .u8 10), .lit (.int .u8 9)]
def laid_math_bits_deBruijn64tab {H : Type} : DataW H := .agg [.lit (.int .u8 0), .lit (.int .u8 1), .lit (.int .u8 56), .lit (.int .u8 2), .lit (.int .u8 57), .lit (.int .u8 49), .lit (.int .u8 28), .lit (.int .u8 3), .lit (.int .u8 61), .lit (.int .u8 58), .lit (.int .u8 42), .lit (.int .u8 50), .lit (.int .u8 38), .lit (.int .u8 29), .lit (.int .u8 17), .lit (.int .u8 4), .lit (.int .u8 62), .lit (.int .u8 47), .lit (.int .u8 59), .lit (.int .u8 36), .lit (.int .u8 45), .lit (.int .u8 43), .lit (.int .u8 51), .lit (.int .u8 22), .lit (.int .u8 53), .lit (.int .u8 39), .lit (.int .u8 33), .lit (.int .u8 30), .lit (.int .u8 24), .lit (.int .u8 18), .lit (.int .u8 12), .lit (.int .u8 5), .lit (.int .u8 63), .lit (.int .u8 55), .lit (.int .u8 48), .lit (.int .u8 27), .lit (.int .u8 60), .lit (.int .u8 41), .lit (.int .u8 37), .lit (.int .u8 16), .lit (.int .u8 46), .lit (.int .u8 35), .lit (.int .u8 44), .lit (.int .u8 21), .lit (.int .u8 52), .lit (.int .u8 32), .lit (.int .u8 23), .lit (.int .u8 11), .lit (.int .u8 54), .lit (.int .u8 26), .lit (.int .u8 40), .lit (.int .u8 15), .lit (.int .u8 34), .lit (.int .u8 20), .lit (.int .u8 31), .lit (.int .u8 10), .lit (.int .u8 25), .lit (.int .u8 14), .lit (.int .u8 19), .lit (.int .u8 9), .lit (.int .u8 13), .lit (.int .u8 8), .lit (.int .u8 7), .lit (.int .u8 6)]
def laid_internal_strconv_uint64pow10 {H : Type} : DataW H := .agg [.lit (.int .u64 1), .lit (.int .u64 10), .lit (.int .u64 100), .lit (.int .u64 1000), .lit (.int .u64 10000), .lit (.int .u64 100000), .lit (.int .u64 1000000), .lit (.int .u64 10000000), .lit (.int .u64 100000000), .lit (.int .u64 1000000000), .lit (.int .u64 10000000000), .lit (.int .u64 100000000000), .lit (.int .u64 1000000000000), .lit (.int .u64 10000000000000), .lit (.int .u64 100000000000000), .lit (.int .u64 1000000000000000), .lit (.int .u64 10000000000000000), .lit (.int .u64 100000000000000000), .lit (.int .u64 1000000000000000000), .lit (.int .u64 10000000000000000000)]
def laid_covenant_token_keywords {H : Type} : DataW H := .agg [.lit (.string [102, 110]), .lit (.string [108, 101, 116]), .lit (.string [105, 102]), .lit (.string [101, 108, 115, 101]), .lit (.string [102, 111, 114]), .lit (.string [116, 111]), .lit (.string [114, 101, 116, 117, 114, 110]), .lit (.string [112, 117, 116]), .lit (.string [100, 101, 108]), .lit (.string [103, 101, 116]), .lit (.string [104, 97, 115]), .lit (.string [108, 101, 110]), .lit (.string [116, 114, 117, 101]), .lit (.string [102, 97, 108, 115, 101]), .lit (.string [105, 110, 116]), .lit (.string [98, 111, 111, 108]), .lit (.string [98, 121, 116, 101, 115])]
def laid_covenant_token_signs {H : Type} : DataW H := .agg [.lit (.string [61, 61]), .lit (.string [33, 61]), .lit (.string [60, 61]), .lit (.string [62, 61]), .lit (.string [38, 38]), .lit (.string [124, 124]), .lit (.string [40]), .lit (.string [41]), .lit (.string [123]), .lit (.string [125]), .lit (.string [44]), .lit (.string [59]), .lit (.string [58]), .lit (.string [61]), .lit (.string [60]), .lit (.string [62]), .lit (.string [43]), .lit (.string [45]), .lit (.string [42]), .lit (.string [47]), .lit (.string [37]), .lit (.string [33])]

/-- 'covenantlaw04.SyntaxParses': WHATEVER THE INPUT: true; the input reads as it did. -/
def syntaxParsesSpec : ChangeSpec := { name := "syntaxParses", fn := fun _ => fun
  | [d] => { results := [.lit (.bool true)], args := [d] }
  | _ => none }
def syntaxParsesRow : OpenClaim := { program := "ytcilgkdnjgmogaagreatdoor", sum := "f22a4c33d3fc4acb0484c6af64ecbc77b84e3cf797d3ce320cfb8e4346683848", func := "covenant/covenantlaw04.SyntaxParses", spec := "syntaxParses", inPlace := ["internal/abi.NoEscape"], unfollowed := true, recurses := true, named := ["covenant/token.keywords", "covenant/token.signs", "internal/strconv.uint64pow10", "math/bits.deBruijn32tab", "math/bits.deBruijn64tab"], apart := false, laid := [("math/bits.deBruijn32tab", laid_math_bits_deBruijn32tab), ("math/bits.deBruijn64tab", laid_math_bits_deBruijn64tab), ("internal/strconv.uint64pow10", laid_internal_strconv_uint64pow10), ("covenant/token.keywords", laid_covenant_token_keywords), ("covenant/token.signs", laid_covenant_token_signs)] }
def SyntaxParsesSaid : Prop := syntaxParsesRow.holds Tryz.pinned (OpenSpec.ofChange syntaxParsesSpec)

/-- ITS FALSE NEIGHBOUR: 'it returns false'. Refute it at one input. -/
def syntaxParsesWrong : ChangeSpec := { name := "syntaxParses", fn := fun _ => fun
  | [d] => { results := [.lit (.bool false)], args := [d] }
  | _ => none }
def SyntaxParsesWrongFalsely : Prop := syntaxParsesRow.holds Tryz.pinned (OpenSpec.ofChange syntaxParsesWrong)

/-- 'covenantlaw10.EvalRuns': WHATEVER THE INPUT: true; the input reads as it did. -/
def evalRunsSpec : ChangeSpec := { name := "evalRuns", fn := fun _ => fun
  | [d1, d2, d3, d4, d5] => { results := [.lit (.bool true)], args := [d1, d2, d3, d4, d5] }
  | _ => none }
def evalRunsRow : OpenClaim := { program := "ytcilgkdnjgmogaagreatdoor", sum := "f22a4c33d3fc4acb0484c6af64ecbc77b84e3cf797d3ce320cfb8e4346683848", func := "covenant/covenantlaw10.EvalRuns", spec := "evalRuns", inPlace := ["maps.clone", "internal/bytealg.Compare"], unfollowed := true, recurses := true, named := ["covenant/token.keywords", "covenant/token.signs"], loops := true, apart := false, laid := [("covenant/token.keywords", laid_covenant_token_keywords), ("covenant/token.signs", laid_covenant_token_signs)] }
def EvalRunsSaid : Prop := evalRunsRow.holds Tryz.pinned (OpenSpec.ofChange evalRunsSpec)

/-- ITS FALSE NEIGHBOUR: 'it returns false'. Refute it at one input. -/
def evalRunsWrong : ChangeSpec := { name := "evalRuns", fn := fun _ => fun
  | [d1, d2, d3, d4, d5] => { results := [.lit (.bool false)], args := [d1, d2, d3, d4, d5] }
  | _ => none }
def EvalRunsWrongFalsely : Prop := evalRunsRow.holds Tryz.pinned (OpenSpec.ofChange evalRunsWrong)

/-- 'covenantlaw10.EvalBack': WHATEVER THE INPUT: true; the input reads as it did. -/
def evalBackSpec : ChangeSpec := { name := "evalBack", fn := fun _ => fun
  | [d1, d2, d3, d4, d5] => { results := [.lit (.bool true)], args := [d1, d2, d3, d4, d5] }
  | _ => none }
def evalBackRow : OpenClaim := { program := "ytcilgkdnjgmogaagreatdoor", sum := "f22a4c33d3fc4acb0484c6af64ecbc77b84e3cf797d3ce320cfb8e4346683848", func := "covenant/covenantlaw10.EvalBack", spec := "evalBack", inPlace := ["maps.clone", "internal/bytealg.Compare"], unfollowed := true, recurses := true, named := ["covenant/token.keywords", "covenant/token.signs"], apart := false, laid := [("covenant/token.keywords", laid_covenant_token_keywords), ("covenant/token.signs", laid_covenant_token_signs)] }
def EvalBackSaid : Prop := evalBackRow.holds Tryz.pinned (OpenSpec.ofChange evalBackSpec)

/-- ITS FALSE NEIGHBOUR: 'it returns false'. Refute it at one input. -/
def evalBackWrong : ChangeSpec := { name := "evalBack", fn := fun _ => fun
  | [d1, d2, d3, d4, d5] => { results := [.lit (.bool false)], args := [d1, d2, d3, d4, d5] }
  | _ => none }
def EvalBackWrongFalsely : Prop := evalBackRow.holds Tryz.pinned (OpenSpec.ofChange evalBackWrong)

/-- 'covenantlaw10.EvalGas': WHATEVER THE INPUT: true; the input reads as it did. -/
def evalGasSpec : ChangeSpec := { name := "evalGas", fn := fun _ => fun
  | [d1, d2, d3, d4, d5, d6] => { results := [.lit (.bool true)], args := [d1, d2, d3, d4, d5, d6] }
  | _ => none }
def evalGasRow : OpenClaim := { program := "ytcilgkdnjgmogaagreatdoor", sum := "f22a4c33d3fc4acb0484c6af64ecbc77b84e3cf797d3ce320cfb8e4346683848", func := "covenant/covenantlaw10.EvalGas", spec := "evalGas", inPlace := ["maps.clone", "internal/bytealg.Compare"], unfollowed := true, recurses := true, named := ["covenant/token.keywords", "covenant/token.signs"], apart := false, laid := [("covenant/token.keywords", laid_covenant_token_keywords), ("covenant/token.signs", laid_covenant_token_signs)] }
def EvalGasSaid : Prop := evalGasRow.holds Tryz.pinned (OpenSpec.ofChange evalGasSpec)

/-- ITS FALSE NEIGHBOUR: 'it returns false'. Refute it at one input. -/
def evalGasWrong : ChangeSpec := { name := "evalGas", fn := fun _ => fun
  | [d1, d2, d3, d4, d5, d6] => { results := [.lit (.bool false)], args := [d1, d2, d3, d4, d5, d6] }
  | _ => none }
def EvalGasWrongFalsely : Prop := evalGasRow.holds Tryz.pinned (OpenSpec.ofChange evalGasWrong)

/-- 'covenantlaw10.EvalLoops': WHATEVER THE INPUT: true; the input reads as it did. -/
def evalLoopsSpec : ChangeSpec := { name := "evalLoops", fn := fun _ => fun
  | [d1, d2] => { results := [.lit (.bool true)], args := [d1, d2] }
  | _ => none }
def evalLoopsRow : OpenClaim := { program := "ytcilgkdnjgmogaagreatdoor", sum := "f22a4c33d3fc4acb0484c6af64ecbc77b84e3cf797d3ce320cfb8e4346683848", func := "covenant/covenantlaw10.EvalLoops", spec := "evalLoops", inPlace := ["maps.clone", "internal/bytealg.Compare"], unfollowed := true, recurses := true, named := ["covenant/token.keywords", "covenant/token.signs"], apart := false, laid := [("covenant/token.keywords", laid_covenant_token_keywords), ("covenant/token.signs", laid_covenant_token_signs)] }
def EvalLoopsSaid : Prop := evalLoopsRow.holds Tryz.pinned (OpenSpec.ofChange evalLoopsSpec)

/-- ITS FALSE NEIGHBOUR: 'it returns false'. Refute it at one input. -/
def evalLoopsWrong : ChangeSpec := { name := "evalLoops", fn := fun _ => fun
  | [d1, d2] => { results := [.lit (.bool false)], args := [d1, d2] }
  | _ => none }
def EvalLoopsWrongFalsely : Prop := evalLoopsRow.holds Tryz.pinned (OpenSpec.ofChange evalLoopsWrong)

/-- 'covenantlaw10.EvalDeep': WHATEVER THE INPUT: true; the input reads as it did. -/
def evalDeepSpec : ChangeSpec := { name := "evalDeep", fn := fun _ => fun
  | [d] => { results := [.lit (.bool true)], args := [d] }
  | _ => none }
def evalDeepRow : OpenClaim := { program := "ytcilgkdnjgmogaagreatdoor", sum := "f22a4c33d3fc4acb0484c6af64ecbc77b84e3cf797d3ce320cfb8e4346683848", func := "covenant/covenantlaw10.EvalDeep", spec := "evalDeep", inPlace := ["maps.clone", "internal/bytealg.Compare"], unfollowed := true, recurses := true, named := ["covenant/token.keywords", "covenant/token.signs"], apart := false, laid := [("covenant/token.keywords", laid_covenant_token_keywords), ("covenant/token.signs", laid_covenant_token_signs)] }
def EvalDeepSaid : Prop := evalDeepRow.holds Tryz.pinned (OpenSpec.ofChange evalDeepSpec)

/-- ITS FALSE NEIGHBOUR: 'it returns false'. Refute it at one input. -/
def evalDeepWrong : ChangeSpec := { name := "evalDeep", fn := fun _ => fun
  | [d] => { results := [.lit (.bool false)], args := [d] }
  | _ => none }
def EvalDeepWrongFalsely : Prop := evalDeepRow.holds Tryz.pinned (OpenSpec.ofChange evalDeepWrong)

/-- 'covenantlaw10.EvalSigns': WHATEVER THE INPUT: true; the input reads as it did. -/
def evalSignsSpec : ChangeSpec := { name := "evalSigns", fn := fun _ => fun
  | [d1, d2, d3] => { results := [.lit (.bool true)], args := [d1, d2, d3] }
  | _ => none }
def evalSignsRow : OpenClaim := { program := "ytcilgkdnjgmogaagreatdoor", sum := "f22a4c33d3fc4acb0484c6af64ecbc77b84e3cf797d3ce320cfb8e4346683848", func := "covenant/covenantlaw10.EvalSigns", spec := "evalSigns", inPlace := ["maps.clone", "internal/bytealg.Compare"], unfollowed := true, recurses := true, named := ["covenant/token.keywords", "covenant/token.signs"], apart := false, laid := [("covenant/token.keywords", laid_covenant_token_keywords), ("covenant/token.signs", laid_covenant_token_signs)] }
def EvalSignsSaid : Prop := evalSignsRow.holds Tryz.pinned (OpenSpec.ofChange evalSignsSpec)

/-- ITS FALSE NEIGHBOUR: 'it returns false'. Refute it at one input. -/
def evalSignsWrong : ChangeSpec := { name := "evalSigns", fn := fun _ => fun
  | [d1, d2, d3] => { results := [.lit (.bool false)], args := [d1, d2, d3] }
  | _ => none }
def EvalSignsWrongFalsely : Prop := evalSignsRow.holds Tryz.pinned (OpenSpec.ofChange evalSignsWrong)

/-- 'covenantlaw10.EvalKeeps': WHATEVER THE INPUT: true; the input reads as it did. -/
def evalKeepsSpec : ChangeSpec := { name := "evalKeeps", fn := fun _ => fun
  | [d1, d2] => { results := [.lit (.bool true)], args := [d1, d2] }
  | _ => none }
def evalKeepsRow : OpenClaim := { program := "ytcilgkdnjgmogaagreatdoor", sum := "f22a4c33d3fc4acb0484c6af64ecbc77b84e3cf797d3ce320cfb8e4346683848", func := "covenant/covenantlaw10.EvalKeeps", spec := "evalKeeps", inPlace := ["maps.clone", "internal/bytealg.Compare"], unfollowed := true, recurses := true, named := ["covenant/token.keywords", "covenant/token.signs"], apart := false, laid := [("covenant/token.keywords", laid_covenant_token_keywords), ("covenant/token.signs", laid_covenant_token_signs)] }
def EvalKeepsSaid : Prop := evalKeepsRow.holds Tryz.pinned (OpenSpec.ofChange evalKeepsSpec)

/-- ITS FALSE NEIGHBOUR: 'it returns false'. Refute it at one input. -/
def evalKeepsWrong : ChangeSpec := { name := "evalKeeps", fn := fun _ => fun
  | [d1, d2] => { results := [.lit (.bool false)], args := [d1, d2] }
  | _ => none }
def EvalKeepsWrongFalsely : Prop := evalKeepsRow.holds Tryz.pinned (OpenSpec.ofChange evalKeepsWrong)

/- THE SECOND FORM. 'bulk': how many values and letters a reading holds, each counted each time it is reached (what is shared counts as often as it is met; a slice's spare places count too). A statement '..UptoSaid' is the law's where the arguments, and the package variables that the reading takes, are together of bulk at most 1048576: NARROWER than '..Said'. Prove '..Said' where nothing that the law and all that it calls make is longer than what came in: it says more and counts as full. Else prove '..UptoSaid'. A law counts once. -/
mutual
def uptoBulk {H : Type} : DataW H → Nat
  | .lit (.string bytes) => bytes.length + 1
  | .lit _ => 1
  | .nil => 1
  | .ptr d => uptoBulk d + 1
  | .slice elems spare => uptoBulkAll elems + uptoBulkAll spare + 1
  | .agg parts => uptoBulkAll parts + 1
  | .iface _ d => uptoBulk d + 1
  | .map entries => uptoBulkEntries entries + 1
  | .held _ => 1
def uptoBulkAll {H : Type} : List (DataW H) → Nat
  | [] => 0
  | d :: r => uptoBulk d + uptoBulkAll r
def uptoBulkEntries {H : Type} : List (Lit × DataW H) → Nat
  | [] => 0
  | x :: r => uptoBulkEntry x + uptoBulkEntries r
def uptoBulkEntry {H : Type} : Lit × DataW H → Nat
  | (.string bytes, d) => bytes.length + uptoBulk d + 1
  | (_, d) => uptoBulk d + 1
 end
def uptoSmall : (H : Type) → List (DataW H) → Bool := fun _ ds => decide (uptoBulkAll ds ≤ 1048576)
def OpenSpec.upto (s : _root_.Go.ChangeSpec) : _root_.Go.OpenSpec := { _root_.Go.OpenSpec.ofChange s with cond := some uptoSmall }

/-- 'covenantlaw04.SyntaxParses', WHERE WHAT IT READS IS OF BULK AT MOST 1048576: true; the input reads as it did. -/
def syntaxParsesUptoRow : OpenClaim := { program := "ytcilgkdnjgmogaagreatdoor", sum := "f22a4c33d3fc4acb0484c6af64ecbc77b84e3cf797d3ce320cfb8e4346683848", func := "covenant/covenantlaw04.SyntaxParses", spec := "syntaxParses", inPlace := ["internal/abi.NoEscape"], unfollowed := true, recurses := true, named := ["covenant/token.keywords", "covenant/token.signs", "internal/strconv.uint64pow10", "math/bits.deBruijn32tab", "math/bits.deBruijn64tab"], apart := false, laid := [("math/bits.deBruijn32tab", laid_math_bits_deBruijn32tab), ("math/bits.deBruijn64tab", laid_math_bits_deBruijn64tab), ("internal/strconv.uint64pow10", laid_internal_strconv_uint64pow10), ("covenant/token.keywords", laid_covenant_token_keywords), ("covenant/token.signs", laid_covenant_token_signs)], narrowed := true }
def SyntaxParsesUptoSaid : Prop := syntaxParsesUptoRow.holds Tryz.pinned (OpenSpec.upto syntaxParsesSpec)

/-- 'covenantlaw10.EvalRuns', WHERE WHAT IT READS IS OF BULK AT MOST 1048576: true; the input reads as it did. -/
def evalRunsUptoRow : OpenClaim := { program := "ytcilgkdnjgmogaagreatdoor", sum := "f22a4c33d3fc4acb0484c6af64ecbc77b84e3cf797d3ce320cfb8e4346683848", func := "covenant/covenantlaw10.EvalRuns", spec := "evalRuns", inPlace := ["maps.clone", "internal/bytealg.Compare"], unfollowed := true, recurses := true, named := ["covenant/token.keywords", "covenant/token.signs"], loops := true, apart := false, laid := [("covenant/token.keywords", laid_covenant_token_keywords), ("covenant/token.signs", laid_covenant_token_signs)], narrowed := true }
def EvalRunsUptoSaid : Prop := evalRunsUptoRow.holds Tryz.pinned (OpenSpec.upto evalRunsSpec)

/-- 'covenantlaw10.EvalBack', WHERE WHAT IT READS IS OF BULK AT MOST 1048576: true; the input reads as it did. -/
def evalBackUptoRow : OpenClaim := { program := "ytcilgkdnjgmogaagreatdoor", sum := "f22a4c33d3fc4acb0484c6af64ecbc77b84e3cf797d3ce320cfb8e4346683848", func := "covenant/covenantlaw10.EvalBack", spec := "evalBack", inPlace := ["maps.clone", "internal/bytealg.Compare"], unfollowed := true, recurses := true, named := ["covenant/token.keywords", "covenant/token.signs"], apart := false, laid := [("covenant/token.keywords", laid_covenant_token_keywords), ("covenant/token.signs", laid_covenant_token_signs)], narrowed := true }
def EvalBackUptoSaid : Prop := evalBackUptoRow.holds Tryz.pinned (OpenSpec.upto evalBackSpec)

/-- 'covenantlaw10.EvalGas', WHERE WHAT IT READS IS OF BULK AT MOST 1048576: true; the input reads as it did. -/
def evalGasUptoRow : OpenClaim := { program := "ytcilgkdnjgmogaagreatdoor", sum := "f22a4c33d3fc4acb0484c6af64ecbc77b84e3cf797d3ce320cfb8e4346683848", func := "covenant/covenantlaw10.EvalGas", spec := "evalGas", inPlace := ["maps.clone", "internal/bytealg.Compare"], unfollowed := true, recurses := true, named := ["covenant/token.keywords", "covenant/token.signs"], apart := false, laid := [("covenant/token.keywords", laid_covenant_token_keywords), ("covenant/token.signs", laid_covenant_token_signs)], narrowed := true }
def EvalGasUptoSaid : Prop := evalGasUptoRow.holds Tryz.pinned (OpenSpec.upto evalGasSpec)

/-- 'covenantlaw10.EvalLoops', WHERE WHAT IT READS IS OF BULK AT MOST 1048576: true; the input reads as it did. -/
def evalLoopsUptoRow : OpenClaim := { program := "ytcilgkdnjgmogaagreatdoor", sum := "f22a4c33d3fc4acb0484c6af64ecbc77b84e3cf797d3ce320cfb8e4346683848", func := "covenant/covenantlaw10.EvalLoops", spec := "evalLoops", inPlace := ["maps.clone", "internal/bytealg.Compare"], unfollowed := true, recurses := true, named := ["covenant/token.keywords", "covenant/token.signs"], apart := false, laid := [("covenant/token.keywords", laid_covenant_token_keywords), ("covenant/token.signs", laid_covenant_token_signs)], narrowed := true }
def EvalLoopsUptoSaid : Prop := evalLoopsUptoRow.holds Tryz.pinned (OpenSpec.upto evalLoopsSpec)

/-- 'covenantlaw10.EvalDeep', WHERE WHAT IT READS IS OF BULK AT MOST 1048576: true; the input reads as it did. -/
def evalDeepUptoRow : OpenClaim := { program := "ytcilgkdnjgmogaagreatdoor", sum := "f22a4c33d3fc4acb0484c6af64ecbc77b84e3cf797d3ce320cfb8e4346683848", func := "covenant/covenantlaw10.EvalDeep", spec := "evalDeep", inPlace := ["maps.clone", "internal/bytealg.Compare"], unfollowed := true, recurses := true, named := ["covenant/token.keywords", "covenant/token.signs"], apart := false, laid := [("covenant/token.keywords", laid_covenant_token_keywords), ("covenant/token.signs", laid_covenant_token_signs)], narrowed := true }
def EvalDeepUptoSaid : Prop := evalDeepUptoRow.holds Tryz.pinned (OpenSpec.upto evalDeepSpec)

/-- 'covenantlaw10.EvalSigns', WHERE WHAT IT READS IS OF BULK AT MOST 1048576: true; the input reads as it did. -/
def evalSignsUptoRow : OpenClaim := { program := "ytcilgkdnjgmogaagreatdoor", sum := "f22a4c33d3fc4acb0484c6af64ecbc77b84e3cf797d3ce320cfb8e4346683848", func := "covenant/covenantlaw10.EvalSigns", spec := "evalSigns", inPlace := ["maps.clone", "internal/bytealg.Compare"], unfollowed := true, recurses := true, named := ["covenant/token.keywords", "covenant/token.signs"], apart := false, laid := [("covenant/token.keywords", laid_covenant_token_keywords), ("covenant/token.signs", laid_covenant_token_signs)], narrowed := true }
def EvalSignsUptoSaid : Prop := evalSignsUptoRow.holds Tryz.pinned (OpenSpec.upto evalSignsSpec)

/-- 'covenantlaw10.EvalKeeps', WHERE WHAT IT READS IS OF BULK AT MOST 1048576: true; the input reads as it did. -/
def evalKeepsUptoRow : OpenClaim := { program := "ytcilgkdnjgmogaagreatdoor", sum := "f22a4c33d3fc4acb0484c6af64ecbc77b84e3cf797d3ce320cfb8e4346683848", func := "covenant/covenantlaw10.EvalKeeps", spec := "evalKeeps", inPlace := ["maps.clone", "internal/bytealg.Compare"], unfollowed := true, recurses := true, named := ["covenant/token.keywords", "covenant/token.signs"], apart := false, laid := [("covenant/token.keywords", laid_covenant_token_keywords), ("covenant/token.signs", laid_covenant_token_signs)], narrowed := true }
def EvalKeepsUptoSaid : Prop := evalKeepsUptoRow.holds Tryz.pinned (OpenSpec.upto evalKeepsSpec)

end Rows
end Go.Proofs.YtcilgkdnjgmogaaGreatDoor
