/-
  NARROWER THAN 'FOR EVERY INPUT', by the rows' own cells (each row's printed sentence says how): VerifyEach: laid · VerifyFalls: laid · VerifyRows: laid · VerifyMeets: laid.
  DERIVED. THE GIVEN ROWS OF THIS SEAT. 4 by the template 'for every input the law returns true; each argument reads behind the call as it read before'; 0 by the template 'total and deterministic' (their statements: YtilmidjkjgeoeaaDoorTotals.lean).
  GIVEN WITH THE SEED: the statements are not yours to turn. If you find one false, say at which input.
  Laid BY PROGRAM, IN A SANDBOX (cutbox-rows.mjs): the forced cells as the released guide's own fill.sh prints them over the translation 8e55d300e59457fd… (all of the seat's roots in one cut). By AI agents, Wed Nov 11 2026. No macro, syntax, notation, axiom, sorry.
-/
import Derived.Test.YtilmidjkjgeoeaaDoorChecked
import GoSem.Claim
import GoSem.ClaimJoined
import GoSem.ClaimMapViews
import Derived.JoinedTies
import Derived.KernelRfl
namespace Go.Proofs.YtilmidjkjgeoeaaDoor
/- THE CELL 'sum', in the pinned program and in every row, IS THE sha256 OF THE DUMP (.gsa) THAT YtilmidjkjgeoeaaDoorProg.lean LOADS. Nothing in Lean hashes anything: it is a label: what it is worth is what the hold of that sum in a sandbox is worth. -/
noncomputable def Tryd.pinned : Pinned := { name := "ytilmidjkjgeoeaadoor", sum := "8e55d300e59457fdd5721dffcdcc148750040da06fdab244589f126cdcb8ba25", checked := Tryd.checked }
namespace Rows
def none {H : Type} : Left H := { results := [], args := [] }

/- WHAT THE LISTED PACKAGE-LEVEL VARIABLES READ AS WHEN THE CALL BEGINS. Each datum BY PROGRAM (the guide's laid-datum.mjs) off the statement by which the dump's own 'gosem.cut.vars' lays the variable. In a bare row this is a premise. The card (YtilmidjkjgeoeaaDoorCards.lean) ties it to the program's text. -/
def laid_covenant_code_signs {H : Type} : DataW H := .agg [.lit (.string [43]), .lit (.string [45]), .lit (.string [42]), .lit (.string [47]), .lit (.string [37]), .lit (.string [60]), .lit (.string [60, 61]), .lit (.string [62]), .lit (.string [62, 61]), .lit (.string [61, 61]), .lit (.string [33, 61]), .lit (.string [33])]

/-- 'covenantlaw13.VerifyEach': WHATEVER THE INPUT: true; the input reads as it did. -/
def verifyEachSpec : ChangeSpec := { name := "verifyEach", fn := fun _ => fun
  | [d1, d2] => { results := [.lit (.bool true)], args := [d1, d2] }
  | _ => none }
def verifyEachRow : OpenClaim := { program := "ytilmidjkjgeoeaadoor", sum := "8e55d300e59457fdd5721dffcdcc148750040da06fdab244589f126cdcb8ba25", func := "covenant/covenantlaw13.VerifyEach", spec := "verifyEach", unfollowed := true, recurses := true, named := ["covenant/code.signs"], plainKeys := false, apart := false, laid := [("covenant/code.signs", laid_covenant_code_signs)] }
def VerifyEachSaid : Prop := verifyEachRow.holds Tryd.pinned (OpenSpec.ofChange verifyEachSpec)

/-- ITS FALSE NEIGHBOUR: 'it returns false'. Refute it at one input. -/
def verifyEachWrong : ChangeSpec := { name := "verifyEach", fn := fun _ => fun
  | [d1, d2] => { results := [.lit (.bool false)], args := [d1, d2] }
  | _ => none }
def VerifyEachWrongFalsely : Prop := verifyEachRow.holds Tryd.pinned (OpenSpec.ofChange verifyEachWrong)

/-- 'covenantlaw13.VerifyFalls': WHATEVER THE INPUT: true; the input reads as it did. -/
def verifyFallsSpec : ChangeSpec := { name := "verifyFalls", fn := fun _ => fun
  | [d1, d2] => { results := [.lit (.bool true)], args := [d1, d2] }
  | _ => none }
def verifyFallsRow : OpenClaim := { program := "ytilmidjkjgeoeaadoor", sum := "8e55d300e59457fdd5721dffcdcc148750040da06fdab244589f126cdcb8ba25", func := "covenant/covenantlaw13.VerifyFalls", spec := "verifyFalls", unfollowed := true, recurses := true, named := ["covenant/code.signs"], plainKeys := false, apart := false, laid := [("covenant/code.signs", laid_covenant_code_signs)] }
def VerifyFallsSaid : Prop := verifyFallsRow.holds Tryd.pinned (OpenSpec.ofChange verifyFallsSpec)

/-- ITS FALSE NEIGHBOUR: 'it returns false'. Refute it at one input. -/
def verifyFallsWrong : ChangeSpec := { name := "verifyFalls", fn := fun _ => fun
  | [d1, d2] => { results := [.lit (.bool false)], args := [d1, d2] }
  | _ => none }
def VerifyFallsWrongFalsely : Prop := verifyFallsRow.holds Tryd.pinned (OpenSpec.ofChange verifyFallsWrong)

/-- 'covenantlaw13.VerifyRows': WHATEVER THE INPUT: true; the input reads as it did. -/
def verifyRowsSpec : ChangeSpec := { name := "verifyRows", fn := fun _ => fun
  | [d1, d2, d3] => { results := [.lit (.bool true)], args := [d1, d2, d3] }
  | _ => none }
def verifyRowsRow : OpenClaim := { program := "ytilmidjkjgeoeaadoor", sum := "8e55d300e59457fdd5721dffcdcc148750040da06fdab244589f126cdcb8ba25", func := "covenant/covenantlaw13.VerifyRows", spec := "verifyRows", unfollowed := true, recurses := true, named := ["covenant/code.signs"], plainKeys := false, apart := false, laid := [("covenant/code.signs", laid_covenant_code_signs)] }
def VerifyRowsSaid : Prop := verifyRowsRow.holds Tryd.pinned (OpenSpec.ofChange verifyRowsSpec)

/-- ITS FALSE NEIGHBOUR: 'it returns false'. Refute it at one input. -/
def verifyRowsWrong : ChangeSpec := { name := "verifyRows", fn := fun _ => fun
  | [d1, d2, d3] => { results := [.lit (.bool false)], args := [d1, d2, d3] }
  | _ => none }
def VerifyRowsWrongFalsely : Prop := verifyRowsRow.holds Tryd.pinned (OpenSpec.ofChange verifyRowsWrong)

/-- 'covenantlaw13.VerifyMeets': WHATEVER THE INPUT: true; the input reads as it did. -/
def verifyMeetsSpec : ChangeSpec := { name := "verifyMeets", fn := fun _ => fun
  | [d1, d2] => { results := [.lit (.bool true)], args := [d1, d2] }
  | _ => none }
def verifyMeetsRow : OpenClaim := { program := "ytilmidjkjgeoeaadoor", sum := "8e55d300e59457fdd5721dffcdcc148750040da06fdab244589f126cdcb8ba25", func := "covenant/covenantlaw13.VerifyMeets", spec := "verifyMeets", unfollowed := true, recurses := true, named := ["covenant/code.signs"], plainKeys := false, apart := false, laid := [("covenant/code.signs", laid_covenant_code_signs)] }
def VerifyMeetsSaid : Prop := verifyMeetsRow.holds Tryd.pinned (OpenSpec.ofChange verifyMeetsSpec)

/-- ITS FALSE NEIGHBOUR: 'it returns false'. Refute it at one input. -/
def verifyMeetsWrong : ChangeSpec := { name := "verifyMeets", fn := fun _ => fun
  | [d1, d2] => { results := [.lit (.bool false)], args := [d1, d2] }
  | _ => none }
def VerifyMeetsWrongFalsely : Prop := verifyMeetsRow.holds Tryd.pinned (OpenSpec.ofChange verifyMeetsWrong)

/- THE SECOND FORM. 'bulk': how many values and letters a reading holds, each counted each time it is reached (what is shared counts as often as it is met; a slice's spare places count too). A statement '..UptoSaid' is the law's where the arguments, and the package variables that the reading takes, are together of bulk at most 1048576: NARROWER than '..Said'. Prove '..Said' where nothing that the law and all that it calls make is longer than what came in: it says more and counts as full. Else prove '..UptoSaid'. A law counts once. -/
mutual
def uptoBulk {H : Type} : DataW H → Nat
  | .lit (.string bytes) => bytes.length + 1
  | .lit _ => 1
  | .nil => 1
  | .ptr d => uptoBulk d + 1
  | .slice elems spare => uptoBulkAll elems + uptoBulkAll spare + 1
  | .agg parts => uptoBulkAll parts + 1
  | .iface _ d => uptoBulk d + 1
  | .map entries => uptoBulkEntries entries + 1
  | .held _ => 1
def uptoBulkAll {H : Type} : List (DataW H) → Nat
  | [] => 0
  | d :: r => uptoBulk d + uptoBulkAll r
def uptoBulkEntries {H : Type} : List (Lit × DataW H) → Nat
  | [] => 0
  | x :: r => uptoBulkEntry x + uptoBulkEntries r
def uptoBulkEntry {H : Type} : Lit × DataW H → Nat
  | (.string bytes, d) => bytes.length + uptoBulk d + 1
  | (_, d) => uptoBulk d + 1
 end
def uptoSmall : (H : Type) → List (DataW H) → Bool := fun _ ds => decide (uptoBulkAll ds ≤ 1048576)
def OpenSpec.upto (s : _root_.Go.ChangeSpec) : _root_.Go.OpenSpec := { _root_.Go.OpenSpec.ofChange s with cond := some uptoSmall }

/-- 'covenantlaw13.VerifyEach', WHERE WHAT IT READS IS OF BULK AT MOST 1048576: true; the input reads as it did. -/
def verifyEachUptoRow : OpenClaim := { program := "ytilmidjkjgeoeaadoor", sum := "8e55d300e59457fdd5721dffcdcc148750040da06fdab244589f126cdcb8ba25", func := "covenant/covenantlaw13.VerifyEach", spec := "verifyEach", unfollowed := true, recurses := true, named := ["covenant/code.signs"], plainKeys := false, apart := false, laid := [("covenant/code.signs", laid_covenant_code_signs)], narrowed := true }
def VerifyEachUptoSaid : Prop := verifyEachUptoRow.holds Tryd.pinned (OpenSpec.upto verifyEachSpec)

/-- 'covenantlaw13.VerifyFalls', WHERE WHAT IT READS IS OF BULK AT MOST 1048576: true; the input reads as it did. -/
def verifyFallsUptoRow : OpenClaim := { program := "ytilmidjkjgeoeaadoor", sum := "8e55d300e59457fdd5721dffcdcc148750040da06fdab244589f126cdcb8ba25", func := "covenant/covenantlaw13.VerifyFalls", spec := "verifyFalls", unfollowed := true, recurses := true, named := ["covenant/code.signs"], plainKeys := false, apart := false, laid := [("covenant/code.signs", laid_covenant_code_signs)], narrowed := true }
def VerifyFallsUptoSaid : Prop := verifyFallsUptoRow.holds Tryd.pinned (OpenSpec.upto verifyFallsSpec)

/-- 'covenantlaw13.VerifyRows', WHERE WHAT IT READS IS OF BULK AT MOST 1048576: true; the input reads as it did. -/
def verifyRowsUptoRow : OpenClaim := { program := "ytilmidjkjgeoeaadoor", sum := "8e55d300e59457fdd5721dffcdcc148750040da06fdab244589f126cdcb8ba25", func := "covenant/covenantlaw13.VerifyRows", spec := "verifyRows", unfollowed := true, recurses := true, named := ["covenant/code.signs"], plainKeys := false, apart := false, laid := [("covenant/code.signs", laid_covenant_code_signs)], narrowed := true }
def VerifyRowsUptoSaid : Prop := verifyRowsUptoRow.holds Tryd.pinned (OpenSpec.upto verifyRowsSpec)

/-- 'covenantlaw13.VerifyMeets', WHERE WHAT IT READS IS OF BULK AT MOST 1048576: true; the input reads as it did. -/
def verifyMeetsUptoRow : OpenClaim := { program := "ytilmidjkjgeoeaadoor", sum := "8e55d300e59457fdd5721dffcdcc148750040da06fdab244589f126cdcb8ba25", func := "covenant/covenantlaw13.VerifyMeets", spec := "verifyMeets", unfollowed := true, recurses := true, named := ["covenant/code.signs"], plainKeys := false, apart := false, laid := [("covenant/code.signs", laid_covenant_code_signs)], narrowed := true }
def VerifyMeetsUptoSaid : Prop := verifyMeetsUptoRow.holds Tryd.pinned (OpenSpec.upto verifyMeetsSpec)

end Rows
end Go.Proofs.YtilmidjkjgeoeaaDoor
