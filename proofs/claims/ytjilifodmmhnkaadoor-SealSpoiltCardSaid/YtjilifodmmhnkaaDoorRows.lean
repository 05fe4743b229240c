/-
  NARROWER THAN 'FOR EVERY INPUT', by the rows' own cells (each row's printed sentence says how): SealTells: laid · SealBack: laid · SealSpoilt: laid · SealThree: laid · SealOwn: laid · SealShort: laid.
  DERIVED. THE GIVEN ROWS OF THIS SEAT. 6 by the template 'for every input the law returns true; each argument reads behind the call as it read before'; 0 by the template 'total and deterministic' (their statements: YtjilifodmmhnkaaDoorTotals.lean).
  GIVEN WITH THE SEED: the statements are not yours to turn. If you find one false, say at which input.
  Laid BY PROGRAM, IN A SANDBOX (cutbox-rows.mjs): the forced cells as the released guide's own fill.sh prints them over the translation 9301109a5a968c51… (all of the seat's roots in one cut). By AI agents, Wed Nov 11 2026. No macro, syntax, notation, axiom, sorry.
-/
import Derived.Test.YtjilifodmmhnkaaDoorChecked
import GoSem.Claim
import GoSem.ClaimJoined
import GoSem.ClaimMapViews
import Derived.JoinedTies
import Derived.KernelRfl
namespace Go.Proofs.YtjilifodmmhnkaaDoor
/- THE CELL 'sum', in the pinned program and in every row, IS THE sha256 OF THE DUMP (.gsa) THAT YtjilifodmmhnkaaDoorProg.lean LOADS. Nothing in Lean hashes anything: it is a label: what it is worth is what the hold of that sum in a sandbox is worth. -/
noncomputable def Tryd.pinned : Pinned := { name := "ytjilifodmmhnkaadoor", sum := "9301109a5a968c513c26ba27677a41af238540d1ee713d4d20efe779f7a3a25b", checked := Tryd.checked }
namespace Rows
def none {H : Type} : Left H := { results := [], args := [] }

/- WHAT THE LISTED PACKAGE-LEVEL VARIABLES READ AS WHEN THE CALL BEGINS. Each datum BY PROGRAM (the guide's laid-datum.mjs) off the statement by which the dump's own 'gosem.cut.vars' lays the variable. In a bare row this is a premise. The card (YtjilifodmmhnkaaDoorCards.lean) ties it to the program's text. -/
def laid_covenant_seal_shifted {H : Type} : DataW H := .agg [.lit (.int .u32 0), .lit (.int .u32 274646895), .lit (.int .u32 549293790), .lit (.int .u32 820201905), .lit (.int .u32 1098587580), .lit (.int .u32 1361435347), .lit (.int .u32 1640403810), .lit (.int .u32 1905808397), .lit (.int .u32 2197175160), .lit (.int .u32 2460548119), .lit (.int .u32 2722870694), .lit (.int .u32 2987750089), .lit (.int .u32 3280807620), .lit (.int .u32 3553878443), .lit (.int .u32 3811616794), .lit (.int .u32 4084100981)]

/-- 'covenantlaw02.SealTells': WHATEVER THE INPUT: true; the input reads as it did. -/
def sealTellsSpec : ChangeSpec := { name := "sealTells", fn := fun _ => fun
  | [d] => { results := [.lit (.bool true)], args := [d] }
  | _ => none }
def sealTellsRow : OpenClaim := { program := "ytjilifodmmhnkaadoor", sum := "9301109a5a968c513c26ba27677a41af238540d1ee713d4d20efe779f7a3a25b", func := "covenant/covenantlaw02.SealTells", spec := "sealTells", named := ["covenant/seal.shifted"], apart := false, laid := [("covenant/seal.shifted", laid_covenant_seal_shifted)] }
def SealTellsSaid : Prop := sealTellsRow.holds Tryd.pinned (OpenSpec.ofChange sealTellsSpec)

/-- ITS FALSE NEIGHBOUR: 'it returns false'. Refute it at one input. -/
def sealTellsWrong : ChangeSpec := { name := "sealTells", fn := fun _ => fun
  | [d] => { results := [.lit (.bool false)], args := [d] }
  | _ => none }
def SealTellsWrongFalsely : Prop := sealTellsRow.holds Tryd.pinned (OpenSpec.ofChange sealTellsWrong)

/-- 'covenantlaw02.SealBack': WHATEVER THE INPUT: true; the input reads as it did. -/
def sealBackSpec : ChangeSpec := { name := "sealBack", fn := fun _ => fun
  | [d] => { results := [.lit (.bool true)], args := [d] }
  | _ => none }
def sealBackRow : OpenClaim := { program := "ytjilifodmmhnkaadoor", sum := "9301109a5a968c513c26ba27677a41af238540d1ee713d4d20efe779f7a3a25b", func := "covenant/covenantlaw02.SealBack", spec := "sealBack", named := ["covenant/seal.shifted"], apart := false, laid := [("covenant/seal.shifted", laid_covenant_seal_shifted)] }
def SealBackSaid : Prop := sealBackRow.holds Tryd.pinned (OpenSpec.ofChange sealBackSpec)

/-- ITS FALSE NEIGHBOUR: 'it returns false'. Refute it at one input. -/
def sealBackWrong : ChangeSpec := { name := "sealBack", fn := fun _ => fun
  | [d] => { results := [.lit (.bool false)], args := [d] }
  | _ => none }
def SealBackWrongFalsely : Prop := sealBackRow.holds Tryd.pinned (OpenSpec.ofChange sealBackWrong)

/-- 'covenantlaw02.SealSpoilt': WHATEVER THE INPUT: true; the input reads as it did. -/
def sealSpoiltSpec : ChangeSpec := { name := "sealSpoilt", fn := fun _ => fun
  | [d1, d2, d3, d4] => { results := [.lit (.bool true)], args := [d1, d2, d3, d4] }
  | _ => none }
def sealSpoiltRow : OpenClaim := { program := "ytjilifodmmhnkaadoor", sum := "9301109a5a968c513c26ba27677a41af238540d1ee713d4d20efe779f7a3a25b", func := "covenant/covenantlaw02.SealSpoilt", spec := "sealSpoilt", named := ["covenant/seal.shifted"], apart := false, laid := [("covenant/seal.shifted", laid_covenant_seal_shifted)] }
def SealSpoiltSaid : Prop := sealSpoiltRow.holds Tryd.pinned (OpenSpec.ofChange sealSpoiltSpec)

/-- ITS FALSE NEIGHBOUR: 'it returns false'. Refute it at one input. -/
def sealSpoiltWrong : ChangeSpec := { name := "sealSpoilt", fn := fun _ => fun
  | [d1, d2, d3, d4] => { results := [.lit (.bool false)], args := [d1, d2, d3, d4] }
  | _ => none }
def SealSpoiltWrongFalsely : Prop := sealSpoiltRow.holds Tryd.pinned (OpenSpec.ofChange sealSpoiltWrong)

/-- 'covenantlaw02.SealThree': WHATEVER THE INPUT: true; the input reads as it did. -/
def sealThreeSpec : ChangeSpec := { name := "sealThree", fn := fun _ => fun
  | [d1, d2, d3] => { results := [.lit (.bool true)], args := [d1, d2, d3] }
  | _ => none }
def sealThreeRow : OpenClaim := { program := "ytjilifodmmhnkaadoor", sum := "9301109a5a968c513c26ba27677a41af238540d1ee713d4d20efe779f7a3a25b", func := "covenant/covenantlaw02.SealThree", spec := "sealThree", named := ["covenant/seal.shifted"], apart := false, laid := [("covenant/seal.shifted", laid_covenant_seal_shifted)] }
def SealThreeSaid : Prop := sealThreeRow.holds Tryd.pinned (OpenSpec.ofChange sealThreeSpec)

/-- ITS FALSE NEIGHBOUR: 'it returns false'. Refute it at one input. -/
def sealThreeWrong : ChangeSpec := { name := "sealThree", fn := fun _ => fun
  | [d1, d2, d3] => { results := [.lit (.bool false)], args := [d1, d2, d3] }
  | _ => none }
def SealThreeWrongFalsely : Prop := sealThreeRow.holds Tryd.pinned (OpenSpec.ofChange sealThreeWrong)

/-- 'covenantlaw02.SealOwn': WHATEVER THE INPUT: true; the input reads as it did. -/
def sealOwnSpec : ChangeSpec := { name := "sealOwn", fn := fun _ => fun
  | [d] => { results := [.lit (.bool true)], args := [d] }
  | _ => none }
def sealOwnRow : OpenClaim := { program := "ytjilifodmmhnkaadoor", sum := "9301109a5a968c513c26ba27677a41af238540d1ee713d4d20efe779f7a3a25b", func := "covenant/covenantlaw02.SealOwn", spec := "sealOwn", named := ["covenant/seal.shifted"], apart := false, laid := [("covenant/seal.shifted", laid_covenant_seal_shifted)] }
def SealOwnSaid : Prop := sealOwnRow.holds Tryd.pinned (OpenSpec.ofChange sealOwnSpec)

/-- ITS FALSE NEIGHBOUR: 'it returns false'. Refute it at one input. -/
def sealOwnWrong : ChangeSpec := { name := "sealOwn", fn := fun _ => fun
  | [d] => { results := [.lit (.bool false)], args := [d] }
  | _ => none }
def SealOwnWrongFalsely : Prop := sealOwnRow.holds Tryd.pinned (OpenSpec.ofChange sealOwnWrong)

/-- 'covenantlaw02.SealShort': WHATEVER THE INPUT: true; the input reads as it did. -/
def sealShortSpec : ChangeSpec := { name := "sealShort", fn := fun _ => fun
  | [d1, d2] => { results := [.lit (.bool true)], args := [d1, d2] }
  | _ => none }
def sealShortRow : OpenClaim := { program := "ytjilifodmmhnkaadoor", sum := "9301109a5a968c513c26ba27677a41af238540d1ee713d4d20efe779f7a3a25b", func := "covenant/covenantlaw02.SealShort", spec := "sealShort", named := ["covenant/seal.shifted"], apart := false, laid := [("covenant/seal.shifted", laid_covenant_seal_shifted)] }
def SealShortSaid : Prop := sealShortRow.holds Tryd.pinned (OpenSpec.ofChange sealShortSpec)

/-- ITS FALSE NEIGHBOUR: 'it returns false'. Refute it at one input. -/
def sealShortWrong : ChangeSpec := { name := "sealShort", fn := fun _ => fun
  | [d1, d2] => { results := [.lit (.bool false)], args := [d1, d2] }
  | _ => none }
def SealShortWrongFalsely : Prop := sealShortRow.holds Tryd.pinned (OpenSpec.ofChange sealShortWrong)

/- THE SECOND FORM. 'bulk': how many values and letters a reading holds, each counted each time it is reached (what is shared counts as often as it is met; a slice's spare places count too). A statement '..UptoSaid' is the law's where the arguments, and the package variables that the reading takes, are together of bulk at most 1048576: NARROWER than '..Said'. Prove '..Said' where nothing that the law and all that it calls make is longer than what came in: it says more and counts as full. Else prove '..UptoSaid'. A law counts once. -/
mutual
def uptoBulk {H : Type} : DataW H → Nat
  | .lit (.string bytes) => bytes.length + 1
  | .lit _ => 1
  | .nil => 1
  | .ptr d => uptoBulk d + 1
  | .slice elems spare => uptoBulkAll elems + uptoBulkAll spare + 1
  | .agg parts => uptoBulkAll parts + 1
  | .iface _ d => uptoBulk d + 1
  | .map entries => uptoBulkEntries entries + 1
  | .held _ => 1
def uptoBulkAll {H : Type} : List (DataW H) → Nat
  | [] => 0
  | d :: r => uptoBulk d + uptoBulkAll r
def uptoBulkEntries {H : Type} : List (Lit × DataW H) → Nat
  | [] => 0
  | x :: r => uptoBulkEntry x + uptoBulkEntries r
def uptoBulkEntry {H : Type} : Lit × DataW H → Nat
  | (.string bytes, d) => bytes.length + uptoBulk d + 1
  | (_, d) => uptoBulk d + 1
 end
def uptoSmall : (H : Type) → List (DataW H) → Bool := fun _ ds => decide (uptoBulkAll ds ≤ 1048576)
def OpenSpec.upto (s : _root_.Go.ChangeSpec) : _root_.Go.OpenSpec := { _root_.Go.OpenSpec.ofChange s with cond := some uptoSmall }

/-- 'covenantlaw02.SealTells', WHERE WHAT IT READS IS OF BULK AT MOST 1048576: true; the input reads as it did. -/
def sealTellsUptoRow : OpenClaim := { program := "ytjilifodmmhnkaadoor", sum := "9301109a5a968c513c26ba27677a41af238540d1ee713d4d20efe779f7a3a25b", func := "covenant/covenantlaw02.SealTells", spec := "sealTells", named := ["covenant/seal.shifted"], apart := false, laid := [("covenant/seal.shifted", laid_covenant_seal_shifted)], narrowed := true }
def SealTellsUptoSaid : Prop := sealTellsUptoRow.holds Tryd.pinned (OpenSpec.upto sealTellsSpec)

/-- 'covenantlaw02.SealBack', WHERE WHAT IT READS IS OF BULK AT MOST 1048576: true; the input reads as it did. -/
def sealBackUptoRow : OpenClaim := { program := "ytjilifodmmhnkaadoor", sum := "9301109a5a968c513c26ba27677a41af238540d1ee713d4d20efe779f7a3a25b", func := "covenant/covenantlaw02.SealBack", spec := "sealBack", named := ["covenant/seal.shifted"], apart := false, laid := [("covenant/seal.shifted", laid_covenant_seal_shifted)], narrowed := true }
def SealBackUptoSaid : Prop := sealBackUptoRow.holds Tryd.pinned (OpenSpec.upto sealBackSpec)

/-- 'covenantlaw02.SealSpoilt', WHERE WHAT IT READS IS OF BULK AT MOST 1048576: true; the input reads as it did. -/
def sealSpoiltUptoRow : OpenClaim := { program := "ytjilifodmmhnkaadoor", sum := "9301109a5a968c513c26ba27677a41af238540d1ee713d4d20efe779f7a3a25b", func := "covenant/covenantlaw02.SealSpoilt", spec := "sealSpoilt", named := ["covenant/seal.shifted"], apart := false, laid := [("covenant/seal.shifted", laid_covenant_seal_shifted)], narrowed := true }
def SealSpoiltUptoSaid : Prop := sealSpoiltUptoRow.holds Tryd.pinned (OpenSpec.upto sealSpoiltSpec)

/-- 'covenantlaw02.SealThree', WHERE WHAT IT READS IS OF BULK AT MOST 1048576: true; the input reads as it did. -/
def sealThreeUptoRow : OpenClaim := { program := "ytjilifodmmhnkaadoor", sum := "9301109a5a968c513c26ba27677a41af238540d1ee713d4d20efe779f7a3a25b", func := "covenant/covenantlaw02.SealThree", spec := "sealThree", named := ["covenant/seal.shifted"], apart := false, laid := [("covenant/seal.shifted", laid_covenant_seal_shifted)], narrowed := true }
def SealThreeUptoSaid : Prop := sealThreeUptoRow.holds Tryd.pinned (OpenSpec.upto sealThreeSpec)

/-- 'covenantlaw02.SealOwn', WHERE WHAT IT READS IS OF BULK AT MOST 1048576: true; the input reads as it did. -/
def sealOwnUptoRow : OpenClaim := { program := "ytjilifodmmhnkaadoor", sum := "9301109a5a968c513c26ba27677a41af238540d1ee713d4d20efe779f7a3a25b", func := "covenant/covenantlaw02.SealOwn", spec := "sealOwn", named := ["covenant/seal.shifted"], apart := false, laid := [("covenant/seal.shifted", laid_covenant_seal_shifted)], narrowed := true }
def SealOwnUptoSaid : Prop := sealOwnUptoRow.holds Tryd.pinned (OpenSpec.upto sealOwnSpec)

/-- 'covenantlaw02.SealShort', WHERE WHAT IT READS IS OF BULK AT MOST 1048576: true; the input reads as it did. -/
def sealShortUptoRow : OpenClaim := { program := "ytjilifodmmhnkaadoor", sum := "9301109a5a968c513c26ba27677a41af238540d1ee713d4d20efe779f7a3a25b", func := "covenant/covenantlaw02.SealShort", spec := "sealShort", named := ["covenant/seal.shifted"], apart := false, laid := [("covenant/seal.shifted", laid_covenant_seal_shifted)], narrowed := true }
def SealShortUptoSaid : Prop := sealShortUptoRow.holds Tryd.pinned (OpenSpec.upto sealShortSpec)

end Rows
end Go.Proofs.YtjilifodmmhnkaaDoor
