/-
  NARROWER THAN 'FOR EVERY INPUT', by the rows' own cells (each row's printed sentence says how): CodeTells: laid · CodeBack: laid · CodeKept: laid · CodeSigns: laid · CodeCuts: laid · CodeSizes: laid · CodeLimits: laid.
  DERIVED. THE GIVEN ROWS OF THIS SEAT. 7 by the template 'for every input the law returns true; each argument reads behind the call as it read before'; 0 by the template 'total and deterministic' (their statements: YtecjkmemihmkcaaDoorTotals.lean).
  GIVEN WITH THE SEED: the statements are not yours to turn. If you find one false, say at which input.
  Laid BY PROGRAM, IN A SANDBOX (cutbox-rows.mjs): the forced cells as the released guide's own fill.sh prints them over the translation b0dcc9d5c98a4d44… (all of the seat's roots in one cut). By AI agents, Wed Nov 11 2026. No macro, syntax, notation, axiom, sorry.
-/
import Derived.Test.YtecjkmemihmkcaaDoorChecked
import GoSem.Claim
import GoSem.ClaimJoined
import GoSem.ClaimMapViews
import Derived.JoinedTies
import Derived.KernelRfl
namespace Go.Proofs.YtecjkmemihmkcaaDoor
/- THE CELL 'sum', in the pinned program and in every row, IS THE sha256 OF THE DUMP (.gsa) THAT YtecjkmemihmkcaaDoorProg.lean LOADS. Nothing in Lean hashes anything: it is a label: what it is worth is what the hold of that sum in a sandbox is worth. -/
noncomputable def Tryd.pinned : Pinned := { name := "ytecjkmemihmkcaadoor", sum := "b0dcc9d5c98a4d44ab1bed02036903264ba0b589920fca32f28fd2fbc63d2181", checked := Tryd.checked }
namespace Rows
def none {H : Type} : Left H := { results := [], args := [] }

/- WHAT THE LISTED PACKAGE-LEVEL VARIABLES READ AS WHEN THE CALL BEGINS. Each datum BY PROGRAM (the guide's laid-datum.mjs) off the statement by which the dump's own 'gosem.cut.vars' lays the variable. In a bare row this is a premise. The card (YtecjkmemihmkcaaDoorCards.lean) ties it to the program's text. -/
def laid_covenant_code_signs {H : Type} : DataW H := .agg [.lit (.string [43]), .lit (.string [45]), .lit (.string [42]), .lit (.string [47]), .lit (.string [37]), .lit (.string [60]), .lit (.string [60, 61]), .lit (.string [62]), .lit (.string [62, 61]), .lit (.string [61, 61]), .lit (.string [33, 61]), .lit (.string [33])]

/-- 'covenantlaw11.CodeTells': WHATEVER THE INPUT: true; the input reads as it did. -/
def codeTellsSpec : ChangeSpec := { name := "codeTells", fn := fun _ => fun
  | [d1, d2, d3, d4] => { results := [.lit (.bool true)], args := [d1, d2, d3, d4] }
  | _ => none }
def codeTellsRow : OpenClaim := { program := "ytecjkmemihmkcaadoor", sum := "b0dcc9d5c98a4d44ab1bed02036903264ba0b589920fca32f28fd2fbc63d2181", func := "covenant/covenantlaw11.CodeTells", spec := "codeTells", unfollowed := true, recurses := true, named := ["covenant/code.signs"], apart := false, laid := [("covenant/code.signs", laid_covenant_code_signs)] }
def CodeTellsSaid : Prop := codeTellsRow.holds Tryd.pinned (OpenSpec.ofChange codeTellsSpec)

/-- ITS FALSE NEIGHBOUR: 'it returns false'. Refute it at one input. -/
def codeTellsWrong : ChangeSpec := { name := "codeTells", fn := fun _ => fun
  | [d1, d2, d3, d4] => { results := [.lit (.bool false)], args := [d1, d2, d3, d4] }
  | _ => none }
def CodeTellsWrongFalsely : Prop := codeTellsRow.holds Tryd.pinned (OpenSpec.ofChange codeTellsWrong)

/-- 'covenantlaw11.CodeBack': WHATEVER THE INPUT: true; the input reads as it did. -/
def codeBackSpec : ChangeSpec := { name := "codeBack", fn := fun _ => fun
  | [d1, d2] => { results := [.lit (.bool true)], args := [d1, d2] }
  | _ => none }
def codeBackRow : OpenClaim := { program := "ytecjkmemihmkcaadoor", sum := "b0dcc9d5c98a4d44ab1bed02036903264ba0b589920fca32f28fd2fbc63d2181", func := "covenant/covenantlaw11.CodeBack", spec := "codeBack", unfollowed := true, recurses := true, named := ["covenant/code.signs"], apart := false, laid := [("covenant/code.signs", laid_covenant_code_signs)] }
def CodeBackSaid : Prop := codeBackRow.holds Tryd.pinned (OpenSpec.ofChange codeBackSpec)

/-- ITS FALSE NEIGHBOUR: 'it returns false'. Refute it at one input. -/
def codeBackWrong : ChangeSpec := { name := "codeBack", fn := fun _ => fun
  | [d1, d2] => { results := [.lit (.bool false)], args := [d1, d2] }
  | _ => none }
def CodeBackWrongFalsely : Prop := codeBackRow.holds Tryd.pinned (OpenSpec.ofChange codeBackWrong)

/-- 'covenantlaw11.CodeKept': WHATEVER THE INPUT: true; the input reads as it did. -/
def codeKeptSpec : ChangeSpec := { name := "codeKept", fn := fun _ => fun
  | [d] => { results := [.lit (.bool true)], args := [d] }
  | _ => none }
def codeKeptRow : OpenClaim := { program := "ytecjkmemihmkcaadoor", sum := "b0dcc9d5c98a4d44ab1bed02036903264ba0b589920fca32f28fd2fbc63d2181", func := "covenant/covenantlaw11.CodeKept", spec := "codeKept", unfollowed := true, recurses := true, named := ["covenant/code.signs"], apart := false, laid := [("covenant/code.signs", laid_covenant_code_signs)] }
def CodeKeptSaid : Prop := codeKeptRow.holds Tryd.pinned (OpenSpec.ofChange codeKeptSpec)

/-- ITS FALSE NEIGHBOUR: 'it returns false'. Refute it at one input. -/
def codeKeptWrong : ChangeSpec := { name := "codeKept", fn := fun _ => fun
  | [d] => { results := [.lit (.bool false)], args := [d] }
  | _ => none }
def CodeKeptWrongFalsely : Prop := codeKeptRow.holds Tryd.pinned (OpenSpec.ofChange codeKeptWrong)

/-- 'covenantlaw11.CodeSigns': WHATEVER THE INPUT: true; the input reads as it did. -/
def codeSignsSpec : ChangeSpec := { name := "codeSigns", fn := fun _ => fun
  | [d1, d2] => { results := [.lit (.bool true)], args := [d1, d2] }
  | _ => none }
def codeSignsRow : OpenClaim := { program := "ytecjkmemihmkcaadoor", sum := "b0dcc9d5c98a4d44ab1bed02036903264ba0b589920fca32f28fd2fbc63d2181", func := "covenant/covenantlaw11.CodeSigns", spec := "codeSigns", unfollowed := true, recurses := true, named := ["covenant/code.signs"], apart := false, laid := [("covenant/code.signs", laid_covenant_code_signs)] }
def CodeSignsSaid : Prop := codeSignsRow.holds Tryd.pinned (OpenSpec.ofChange codeSignsSpec)

/-- ITS FALSE NEIGHBOUR: 'it returns false'. Refute it at one input. -/
def codeSignsWrong : ChangeSpec := { name := "codeSigns", fn := fun _ => fun
  | [d1, d2] => { results := [.lit (.bool false)], args := [d1, d2] }
  | _ => none }
def CodeSignsWrongFalsely : Prop := codeSignsRow.holds Tryd.pinned (OpenSpec.ofChange codeSignsWrong)

/-- 'covenantlaw11.CodeCuts': WHATEVER THE INPUT: true; the input reads as it did. -/
def codeCutsSpec : ChangeSpec := { name := "codeCuts", fn := fun _ => fun
  | [d1, d2] => { results := [.lit (.bool true)], args := [d1, d2] }
  | _ => none }
def codeCutsRow : OpenClaim := { program := "ytecjkmemihmkcaadoor", sum := "b0dcc9d5c98a4d44ab1bed02036903264ba0b589920fca32f28fd2fbc63d2181", func := "covenant/covenantlaw11.CodeCuts", spec := "codeCuts", unfollowed := true, recurses := true, named := ["covenant/code.signs"], apart := false, laid := [("covenant/code.signs", laid_covenant_code_signs)] }
def CodeCutsSaid : Prop := codeCutsRow.holds Tryd.pinned (OpenSpec.ofChange codeCutsSpec)

/-- ITS FALSE NEIGHBOUR: 'it returns false'. Refute it at one input. -/
def codeCutsWrong : ChangeSpec := { name := "codeCuts", fn := fun _ => fun
  | [d1, d2] => { results := [.lit (.bool false)], args := [d1, d2] }
  | _ => none }
def CodeCutsWrongFalsely : Prop := codeCutsRow.holds Tryd.pinned (OpenSpec.ofChange codeCutsWrong)

/-- 'covenantlaw11.CodeSizes': WHATEVER THE INPUT: true; the input reads as it did. -/
def codeSizesSpec : ChangeSpec := { name := "codeSizes", fn := fun _ => fun
  | [d] => { results := [.lit (.bool true)], args := [d] }
  | _ => none }
def codeSizesRow : OpenClaim := { program := "ytecjkmemihmkcaadoor", sum := "b0dcc9d5c98a4d44ab1bed02036903264ba0b589920fca32f28fd2fbc63d2181", func := "covenant/covenantlaw11.CodeSizes", spec := "codeSizes", unfollowed := true, recurses := true, named := ["covenant/code.signs"], apart := false, laid := [("covenant/code.signs", laid_covenant_code_signs)] }
def CodeSizesSaid : Prop := codeSizesRow.holds Tryd.pinned (OpenSpec.ofChange codeSizesSpec)

/-- ITS FALSE NEIGHBOUR: 'it returns false'. Refute it at one input. -/
def codeSizesWrong : ChangeSpec := { name := "codeSizes", fn := fun _ => fun
  | [d] => { results := [.lit (.bool false)], args := [d] }
  | _ => none }
def CodeSizesWrongFalsely : Prop := codeSizesRow.holds Tryd.pinned (OpenSpec.ofChange codeSizesWrong)

/-- 'covenantlaw11.CodeLimits': WHATEVER THE INPUT: true; the input reads as it did. -/
def codeLimitsSpec : ChangeSpec := { name := "codeLimits", fn := fun _ => fun
  | [d] => { results := [.lit (.bool true)], args := [d] }
  | _ => none }
def codeLimitsRow : OpenClaim := { program := "ytecjkmemihmkcaadoor", sum := "b0dcc9d5c98a4d44ab1bed02036903264ba0b589920fca32f28fd2fbc63d2181", func := "covenant/covenantlaw11.CodeLimits", spec := "codeLimits", unfollowed := true, recurses := true, named := ["covenant/code.signs"], apart := false, laid := [("covenant/code.signs", laid_covenant_code_signs)] }
def CodeLimitsSaid : Prop := codeLimitsRow.holds Tryd.pinned (OpenSpec.ofChange codeLimitsSpec)

/-- ITS FALSE NEIGHBOUR: 'it returns false'. Refute it at one input. -/
def codeLimitsWrong : ChangeSpec := { name := "codeLimits", fn := fun _ => fun
  | [d] => { results := [.lit (.bool false)], args := [d] }
  | _ => none }
def CodeLimitsWrongFalsely : Prop := codeLimitsRow.holds Tryd.pinned (OpenSpec.ofChange codeLimitsWrong)

/- THE SECOND FORM. 'bulk': how many values and letters a reading holds, each counted each time it is reached (what is shared counts as often as it is met; a slice's spare places count too). A statement '..UptoSaid' is the law's where the arguments, and the package variables that the reading takes, are together of bulk at most 1048576: NARROWER than '..Said'. Prove '..Said' where nothing that the law and all that it calls make is longer than what came in: it says more and counts as full. Else prove '..UptoSaid'. A law counts once. -/
mutual
def uptoBulk {H : Type} : DataW H → Nat
  | .lit (.string bytes) => bytes.length + 1
  | .lit _ => 1
  | .nil => 1
  | .ptr d => uptoBulk d + 1
  | .slice elems spare => uptoBulkAll elems + uptoBulkAll spare + 1
  | .agg parts => uptoBulkAll parts + 1
  | .iface _ d => uptoBulk d + 1
  | .map entries => uptoBulkEntries entries + 1
  | .held _ => 1
def uptoBulkAll {H : Type} : List (DataW H) → Nat
  | [] => 0
  | d :: r => uptoBulk d + uptoBulkAll r
def uptoBulkEntries {H : Type} : List (Lit × DataW H) → Nat
  | [] => 0
  | x :: r => uptoBulkEntry x + uptoBulkEntries r
def uptoBulkEntry {H : Type} : Lit × DataW H → Nat
  | (.string bytes, d) => bytes.length + uptoBulk d + 1
  | (_, d) => uptoBulk d + 1
 end
def uptoSmall : (H : Type) → List (DataW H) → Bool := fun _ ds => decide (uptoBulkAll ds ≤ 1048576)
def OpenSpec.upto (s : _root_.Go.ChangeSpec) : _root_.Go.OpenSpec := { _root_.Go.OpenSpec.ofChange s with cond := some uptoSmall }

/-- 'covenantlaw11.CodeTells', WHERE WHAT IT READS IS OF BULK AT MOST 1048576: true; the input reads as it did. -/
def codeTellsUptoRow : OpenClaim := { program := "ytecjkmemihmkcaadoor", sum := "b0dcc9d5c98a4d44ab1bed02036903264ba0b589920fca32f28fd2fbc63d2181", func := "covenant/covenantlaw11.CodeTells", spec := "codeTells", unfollowed := true, recurses := true, named := ["covenant/code.signs"], apart := false, laid := [("covenant/code.signs", laid_covenant_code_signs)], narrowed := true }
def CodeTellsUptoSaid : Prop := codeTellsUptoRow.holds Tryd.pinned (OpenSpec.upto codeTellsSpec)

/-- 'covenantlaw11.CodeBack', WHERE WHAT IT READS IS OF BULK AT MOST 1048576: true; the input reads as it did. -/
def codeBackUptoRow : OpenClaim := { program := "ytecjkmemihmkcaadoor", sum := "b0dcc9d5c98a4d44ab1bed02036903264ba0b589920fca32f28fd2fbc63d2181", func := "covenant/covenantlaw11.CodeBack", spec := "codeBack", unfollowed := true, recurses := true, named := ["covenant/code.signs"], apart := false, laid := [("covenant/code.signs", laid_covenant_code_signs)], narrowed := true }
def CodeBackUptoSaid : Prop := codeBackUptoRow.holds Tryd.pinned (OpenSpec.upto codeBackSpec)

/-- 'covenantlaw11.CodeKept', WHERE WHAT IT READS IS OF BULK AT MOST 1048576: true; the input reads as it did. -/
def codeKeptUptoRow : OpenClaim := { program := "ytecjkmemihmkcaadoor", sum := "b0dcc9d5c98a4d44ab1bed02036903264ba0b589920fca32f28fd2fbc63d2181", func := "covenant/covenantlaw11.CodeKept", spec := "codeKept", unfollowed := true, recurses := true, named := ["covenant/code.signs"], apart := false, laid := [("covenant/code.signs", laid_covenant_code_signs)], narrowed := true }
def CodeKeptUptoSaid : Prop := codeKeptUptoRow.holds Tryd.pinned (OpenSpec.upto codeKeptSpec)

/-- 'covenantlaw11.CodeSigns', WHERE WHAT IT READS IS OF BULK AT MOST 1048576: true; the input reads as it did. -/
def codeSignsUptoRow : OpenClaim := { program := "ytecjkmemihmkcaadoor", sum := "b0dcc9d5c98a4d44ab1bed02036903264ba0b589920fca32f28fd2fbc63d2181", func := "covenant/covenantlaw11.CodeSigns", spec := "codeSigns", unfollowed := true, recurses := true, named := ["covenant/code.signs"], apart := false, laid := [("covenant/code.signs", laid_covenant_code_signs)], narrowed := true }
def CodeSignsUptoSaid : Prop := codeSignsUptoRow.holds Tryd.pinned (OpenSpec.upto codeSignsSpec)

/-- 'covenantlaw11.CodeCuts', WHERE WHAT IT READS IS OF BULK AT MOST 1048576: true; the input reads as it did. -/
def codeCutsUptoRow : OpenClaim := { program := "ytecjkmemihmkcaadoor", sum := "b0dcc9d5c98a4d44ab1bed02036903264ba0b589920fca32f28fd2fbc63d2181", func := "covenant/covenantlaw11.CodeCuts", spec := "codeCuts", unfollowed := true, recurses := true, named := ["covenant/code.signs"], apart := false, laid := [("covenant/code.signs", laid_covenant_code_signs)], narrowed := true }
def CodeCutsUptoSaid : Prop := codeCutsUptoRow.holds Tryd.pinned (OpenSpec.upto codeCutsSpec)

/-- 'covenantlaw11.CodeSizes', WHERE WHAT IT READS IS OF BULK AT MOST 1048576: true; the input reads as it did. -/
def codeSizesUptoRow : OpenClaim := { program := "ytecjkmemihmkcaadoor", sum := "b0dcc9d5c98a4d44ab1bed02036903264ba0b589920fca32f28fd2fbc63d2181", func := "covenant/covenantlaw11.CodeSizes", spec := "codeSizes", unfollowed := true, recurses := true, named := ["covenant/code.signs"], apart := false, laid := [("covenant/code.signs", laid_covenant_code_signs)], narrowed := true }
def CodeSizesUptoSaid : Prop := codeSizesUptoRow.holds Tryd.pinned (OpenSpec.upto codeSizesSpec)

/-- 'covenantlaw11.CodeLimits', WHERE WHAT IT READS IS OF BULK AT MOST 1048576: true; the input reads as it did. -/
def codeLimitsUptoRow : OpenClaim := { program := "ytecjkmemihmkcaadoor", sum := "b0dcc9d5c98a4d44ab1bed02036903264ba0b589920fca32f28fd2fbc63d2181", func := "covenant/covenantlaw11.CodeLimits", spec := "codeLimits", unfollowed := true, recurses := true, named := ["covenant/code.signs"], apart := false, laid := [("covenant/code.signs", laid_covenant_code_signs)], narrowed := true }
def CodeLimitsUptoSaid : Prop := codeLimitsUptoRow.holds Tryd.pinned (OpenSpec.upto codeLimitsSpec)

end Rows
end Go.Proofs.YtecjkmemihmkcaaDoor
