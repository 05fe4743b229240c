/-
  No cell of these rows narrows 'for every input' (looked for: loops, veiled, ifaces, maps, wideKeys, modest, calm, conditions, laid).
  DERIVED. THE GIVEN ROWS OF THIS SEAT. 6 by the template 'for every input the law returns true; each argument reads behind the call as it read before'; 0 by the template 'total and deterministic' (their statements: YtehihpfhcphdoaaTotals.lean).
  GIVEN WITH THE SEED: the statements are not yours to turn. If you find one false, say at which input.
  Laid BY PROGRAM, IN A SANDBOX (cutbox-rows.mjs): the forced cells as the released guide's own fill.sh prints them over the translation b39cef73c788a10d… (all of the seat's roots in one cut). By AI agents, Wed Nov 11 2026. No macro, syntax, notation, axiom, sorry.
-/
import Derived.Test.YtehihpfhcphdoaaChecked
import GoSem.Claim
import GoSem.ClaimJoined
import GoSem.ClaimMapViews
import Derived.JoinedTies
import Derived.KernelRfl
namespace Go.Proofs.Ytehihpfhcphdoaa
/- THE CELL 'sum', in the pinned program and in every row, IS THE sha256 OF THE DUMP (.gsa) THAT YtehihpfhcphdoaaProg.lean LOADS. Nothing in Lean hashes anything: it is a label: what it is worth is what the hold of that sum in a sandbox is worth. -/
noncomputable def Try.pinned : Pinned := { name := "ytehihpfhcphdoaa", sum := "b39cef73c788a10dfe357e4fcf4bd349dae86a8ed9a03c4500543584bb26a429", checked := Try.checked }
namespace Rows
def none {H : Type} : Left H := { results := [], args := [] }

/-- 'covenantlaw06.ArithUndoes': WHATEVER THE INPUT: true; the input reads as it did. -/
def arithUndoesSpec : ChangeSpec := { name := "arithUndoes", fn := fun _ => fun
  | [d1, d2] => { results := [.lit (.bool true)], args := [d1, d2] }
  | _ => none }
def arithUndoesRow : OpenClaim := { program := "ytehihpfhcphdoaa", sum := "b39cef73c788a10dfe357e4fcf4bd349dae86a8ed9a03c4500543584bb26a429", func := "covenant/covenantlaw06.ArithUndoes", spec := "arithUndoes", unfollowed := true, recurses := true, apart := false }
def ArithUndoesSaid : Prop := arithUndoesRow.holds Try.pinned (OpenSpec.ofChange arithUndoesSpec)

/-- ITS FALSE NEIGHBOUR: 'it returns false'. Refute it at one input. -/
def arithUndoesWrong : ChangeSpec := { name := "arithUndoes", fn := fun _ => fun
  | [d1, d2] => { results := [.lit (.bool false)], args := [d1, d2] }
  | _ => none }
def ArithUndoesWrongFalsely : Prop := arithUndoesRow.holds Try.pinned (OpenSpec.ofChange arithUndoesWrong)

/-- 'covenantlaw06.ArithParts': WHATEVER THE INPUT: true; the input reads as it did. -/
def arithPartsSpec : ChangeSpec := { name := "arithParts", fn := fun _ => fun
  | [d1, d2] => { results := [.lit (.bool true)], args := [d1, d2] }
  | _ => none }
def arithPartsRow : OpenClaim := { program := "ytehihpfhcphdoaa", sum := "b39cef73c788a10dfe357e4fcf4bd349dae86a8ed9a03c4500543584bb26a429", func := "covenant/covenantlaw06.ArithParts", spec := "arithParts", unfollowed := true, recurses := true, apart := false }
def ArithPartsSaid : Prop := arithPartsRow.holds Try.pinned (OpenSpec.ofChange arithPartsSpec)

/-- ITS FALSE NEIGHBOUR: 'it returns false'. Refute it at one input. -/
def arithPartsWrong : ChangeSpec := { name := "arithParts", fn := fun _ => fun
  | [d1, d2] => { results := [.lit (.bool false)], args := [d1, d2] }
  | _ => none }
def ArithPartsWrongFalsely : Prop := arithPartsRow.holds Try.pinned (OpenSpec.ofChange arithPartsWrong)

/-- 'covenantlaw06.ArithOrders': WHATEVER THE INPUT: true; the input reads as it did. -/
def arithOrdersSpec : ChangeSpec := { name := "arithOrders", fn := fun _ => fun
  | [d1, d2] => { results := [.lit (.bool true)], args := [d1, d2] }
  | _ => none }
def arithOrdersRow : OpenClaim := { program := "ytehihpfhcphdoaa", sum := "b39cef73c788a10dfe357e4fcf4bd349dae86a8ed9a03c4500543584bb26a429", func := "covenant/covenantlaw06.ArithOrders", spec := "arithOrders", unfollowed := true, recurses := true, apart := false }
def ArithOrdersSaid : Prop := arithOrdersRow.holds Try.pinned (OpenSpec.ofChange arithOrdersSpec)

/-- ITS FALSE NEIGHBOUR: 'it returns false'. Refute it at one input. -/
def arithOrdersWrong : ChangeSpec := { name := "arithOrders", fn := fun _ => fun
  | [d1, d2] => { results := [.lit (.bool false)], args := [d1, d2] }
  | _ => none }
def ArithOrdersWrongFalsely : Prop := arithOrdersRow.holds Try.pinned (OpenSpec.ofChange arithOrdersWrong)

/-- 'covenantlaw06.ArithTexts': WHATEVER THE INPUT: true; the input reads as it did. -/
def arithTextsSpec : ChangeSpec := { name := "arithTexts", fn := fun _ => fun
  | [d1, d2] => { results := [.lit (.bool true)], args := [d1, d2] }
  | _ => none }
def arithTextsRow : OpenClaim := { program := "ytehihpfhcphdoaa", sum := "b39cef73c788a10dfe357e4fcf4bd349dae86a8ed9a03c4500543584bb26a429", func := "covenant/covenantlaw06.ArithTexts", spec := "arithTexts", unfollowed := true, recurses := true, apart := false }
def ArithTextsSaid : Prop := arithTextsRow.holds Try.pinned (OpenSpec.ofChange arithTextsSpec)

/-- ITS FALSE NEIGHBOUR: 'it returns false'. Refute it at one input. -/
def arithTextsWrong : ChangeSpec := { name := "arithTexts", fn := fun _ => fun
  | [d1, d2] => { results := [.lit (.bool false)], args := [d1, d2] }
  | _ => none }
def ArithTextsWrongFalsely : Prop := arithTextsRow.holds Try.pinned (OpenSpec.ofChange arithTextsWrong)

/-- 'covenantlaw06.ArithBools': WHATEVER THE INPUT: true; the input reads as it did. -/
def arithBoolsSpec : ChangeSpec := { name := "arithBools", fn := fun _ => fun
  | [d1, d2, d3] => { results := [.lit (.bool true)], args := [d1, d2, d3] }
  | _ => none }
def arithBoolsRow : OpenClaim := { program := "ytehihpfhcphdoaa", sum := "b39cef73c788a10dfe357e4fcf4bd349dae86a8ed9a03c4500543584bb26a429", func := "covenant/covenantlaw06.ArithBools", spec := "arithBools", unfollowed := true, recurses := true, apart := false }
def ArithBoolsSaid : Prop := arithBoolsRow.holds Try.pinned (OpenSpec.ofChange arithBoolsSpec)

/-- ITS FALSE NEIGHBOUR: 'it returns false'. Refute it at one input. -/
def arithBoolsWrong : ChangeSpec := { name := "arithBools", fn := fun _ => fun
  | [d1, d2, d3] => { results := [.lit (.bool false)], args := [d1, d2, d3] }
  | _ => none }
def ArithBoolsWrongFalsely : Prop := arithBoolsRow.holds Try.pinned (OpenSpec.ofChange arithBoolsWrong)

/-- 'covenantlaw06.ArithTimes': WHATEVER THE INPUT: true; the input reads as it did. -/
def arithTimesSpec : ChangeSpec := { name := "arithTimes", fn := fun _ => fun
  | [d1, d2, d3] => { results := [.lit (.bool true)], args := [d1, d2, d3] }
  | _ => none }
def arithTimesRow : OpenClaim := { program := "ytehihpfhcphdoaa", sum := "b39cef73c788a10dfe357e4fcf4bd349dae86a8ed9a03c4500543584bb26a429", func := "covenant/covenantlaw06.ArithTimes", spec := "arithTimes", unfollowed := true, recurses := true, apart := false }
def ArithTimesSaid : Prop := arithTimesRow.holds Try.pinned (OpenSpec.ofChange arithTimesSpec)

/-- ITS FALSE NEIGHBOUR: 'it returns false'. Refute it at one input. -/
def arithTimesWrong : ChangeSpec := { name := "arithTimes", fn := fun _ => fun
  | [d1, d2, d3] => { results := [.lit (.bool false)], args := [d1, d2, d3] }
  | _ => none }
def ArithTimesWrongFalsely : Prop := arithTimesRow.holds Try.pinned (OpenSpec.ofChange arithTimesWrong)

/- THE SECOND FORM. 'bulk': how many values and letters a reading holds, each counted each time it is reached (what is shared counts as often as it is met; a slice's spare places count too). A statement '..UptoSaid' is the law's where the arguments, and the package variables that the reading takes, are together of bulk at most 1048576: NARROWER than '..Said'. Prove '..Said' where nothing that the law and all that it calls make is longer than what came in: it says more and counts as full. Else prove '..UptoSaid'. A law counts once. -/
mutual
def uptoBulk {H : Type} : DataW H → Nat
  | .lit (.string bytes) => bytes.length + 1
  | .lit _ => 1
  | .nil => 1
  | .ptr d => uptoBulk d + 1
  | .slice elems spare => uptoBulkAll elems + uptoBulkAll spare + 1
  | .agg parts => uptoBulkAll parts + 1
  | .iface _ d => uptoBulk d + 1
  | .map entries => uptoBulkEntries entries + 1
  | .held _ => 1
def uptoBulkAll {H : Type} : List (DataW H) → Nat
  | [] => 0
  | d :: r => uptoBulk d + uptoBulkAll r
def uptoBulkEntries {H : Type} : List (Lit × DataW H) → Nat
  | [] => 0
  | x :: r => uptoBulkEntry x + uptoBulkEntries r
def uptoBulkEntry {H : Type} : Lit × DataW H → Nat
  | (.string bytes, d) => bytes.length + uptoBulk d + 1
  | (_, d) => uptoBulk d + 1
 end
def uptoSmall : (H : Type) → List (DataW H) → Bool := fun _ ds => decide (uptoBulkAll ds ≤ 1048576)
def OpenSpec.upto (s : _root_.Go.ChangeSpec) : _root_.Go.OpenSpec := { _root_.Go.OpenSpec.ofChange s with cond := some uptoSmall }

/-- 'covenantlaw06.ArithUndoes', WHERE WHAT IT READS IS OF BULK AT MOST 1048576: true; the input reads as it did. -/
def arithUndoesUptoRow : OpenClaim := { program := "ytehihpfhcphdoaa", sum := "b39cef73c788a10dfe357e4fcf4bd349dae86a8ed9a03c4500543584bb26a429", func := "covenant/covenantlaw06.ArithUndoes", spec := "arithUndoes", unfollowed := true, recurses := true, apart := false, narrowed := true }
def ArithUndoesUptoSaid : Prop := arithUndoesUptoRow.holds Try.pinned (OpenSpec.upto arithUndoesSpec)

/-- 'covenantlaw06.ArithParts', WHERE WHAT IT READS IS OF BULK AT MOST 1048576: true; the input reads as it did. -/
def arithPartsUptoRow : OpenClaim := { program := "ytehihpfhcphdoaa", sum := "b39cef73c788a10dfe357e4fcf4bd349dae86a8ed9a03c4500543584bb26a429", func := "covenant/covenantlaw06.ArithParts", spec := "arithParts", unfollowed := true, recurses := true, apart := false, narrowed := true }
def ArithPartsUptoSaid : Prop := arithPartsUptoRow.holds Try.pinned (OpenSpec.upto arithPartsSpec)

/-- 'covenantlaw06.ArithOrders', WHERE WHAT IT READS IS OF BULK AT MOST 1048576: true; the input reads as it did. -/
def arithOrdersUptoRow : OpenClaim := { program := "ytehihpfhcphdoaa", sum := "b39cef73c788a10dfe357e4fcf4bd349dae86a8ed9a03c4500543584bb26a429", func := "covenant/covenantlaw06.ArithOrders", spec := "arithOrders", unfollowed := true, recurses := true, apart := false, narrowed := true }
def ArithOrdersUptoSaid : Prop := arithOrdersUptoRow.holds Try.pinned (OpenSpec.upto arithOrdersSpec)

/-- 'covenantlaw06.ArithTexts', WHERE WHAT IT READS IS OF BULK AT MOST 1048576: true; the input reads as it did. -/
def arithTextsUptoRow : OpenClaim := { program := "ytehihpfhcphdoaa", sum := "b39cef73c788a10dfe357e4fcf4bd349dae86a8ed9a03c4500543584bb26a429", func := "covenant/covenantlaw06.ArithTexts", spec := "arithTexts", unfollowed := true, recurses := true, apart := false, narrowed := true }
def ArithTextsUptoSaid : Prop := arithTextsUptoRow.holds Try.pinned (OpenSpec.upto arithTextsSpec)

/-- 'covenantlaw06.ArithBools', WHERE WHAT IT READS IS OF BULK AT MOST 1048576: true; the input reads as it did. -/
def arithBoolsUptoRow : OpenClaim := { program := "ytehihpfhcphdoaa", sum := "b39cef73c788a10dfe357e4fcf4bd349dae86a8ed9a03c4500543584bb26a429", func := "covenant/covenantlaw06.ArithBools", spec := "arithBools", unfollowed := true, recurses := true, apart := false, narrowed := true }
def ArithBoolsUptoSaid : Prop := arithBoolsUptoRow.holds Try.pinned (OpenSpec.upto arithBoolsSpec)

/-- 'covenantlaw06.ArithTimes', WHERE WHAT IT READS IS OF BULK AT MOST 1048576: true; the input reads as it did. -/
def arithTimesUptoRow : OpenClaim := { program := "ytehihpfhcphdoaa", sum := "b39cef73c788a10dfe357e4fcf4bd349dae86a8ed9a03c4500543584bb26a429", func := "covenant/covenantlaw06.ArithTimes", spec := "arithTimes", unfollowed := true, recurses := true, apart := false, narrowed := true }
def ArithTimesUptoSaid : Prop := arithTimesUptoRow.holds Try.pinned (OpenSpec.upto arithTimesSpec)

end Rows
end Go.Proofs.Ytehihpfhcphdoaa
