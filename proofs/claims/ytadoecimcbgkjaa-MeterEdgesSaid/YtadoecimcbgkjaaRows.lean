/-
  No cell of these rows narrows 'for every input' (looked for: loops, veiled, ifaces, maps, wideKeys, modest, calm, conditions, laid).
  DERIVED. THE GIVEN ROWS OF THIS SEAT. 4 by the template 'for every input the law returns true; each argument reads behind the call as it read before'; 0 by the template 'total and deterministic' (their statements: YtadoecimcbgkjaaTotals.lean).
  GIVEN WITH THE SEED: the statements are not yours to turn. If you find one false, say at which input.
  Laid BY PROGRAM, IN A SANDBOX (cutbox-rows.mjs): the forced cells as the released guide's own fill.sh prints them over the translation 4bda9590ec3fa861… (all of the seat's roots in one cut). By AI agents, Wed Nov 11 2026. No macro, syntax, notation, axiom, sorry.
-/
import Derived.Test.YtadoecimcbgkjaaChecked
import GoSem.Claim
import GoSem.ClaimJoined
import GoSem.ClaimMapViews
import Derived.JoinedTies
import Derived.KernelRfl
namespace Go.Proofs.Ytadoecimcbgkjaa
/- THE CELL 'sum', in the pinned program and in every row, IS THE sha256 OF THE DUMP (.gsa) THAT YtadoecimcbgkjaaProg.lean LOADS. Nothing in Lean hashes anything: it is a label: what it is worth is what the hold of that sum in a sandbox is worth. -/
noncomputable def Try.pinned : Pinned := { name := "ytadoecimcbgkjaa", sum := "4bda9590ec3fa861dce0d47d2340dd119296de157d6068d18d29a19e73d8fb8d", checked := Try.checked }
namespace Rows
def none {H : Type} : Left H := { results := [], args := [] }

/-- 'covenantlaw09.MeterTells': WHATEVER THE INPUT: true; the input reads as it did. -/
def meterTellsSpec : ChangeSpec := { name := "meterTells", fn := fun _ => fun
  | [d1, d2, d3, d4, d5] => { results := [.lit (.bool true)], args := [d1, d2, d3, d4, d5] }
  | _ => none }
def meterTellsRow : OpenClaim := { program := "ytadoecimcbgkjaa", sum := "4bda9590ec3fa861dce0d47d2340dd119296de157d6068d18d29a19e73d8fb8d", func := "covenant/covenantlaw09.MeterTells", spec := "meterTells", unfollowed := true, recurses := true, apart := false }
def MeterTellsSaid : Prop := meterTellsRow.holds Try.pinned (OpenSpec.ofChange meterTellsSpec)

/-- ITS FALSE NEIGHBOUR: 'it returns false'. Refute it at one input. -/
def meterTellsWrong : ChangeSpec := { name := "meterTells", fn := fun _ => fun
  | [d1, d2, d3, d4, d5] => { results := [.lit (.bool false)], args := [d1, d2, d3, d4, d5] }
  | _ => none }
def MeterTellsWrongFalsely : Prop := meterTellsRow.holds Try.pinned (OpenSpec.ofChange meterTellsWrong)

/-- 'covenantlaw09.MeterSums': WHATEVER THE INPUT: true; the input reads as it did. -/
def meterSumsSpec : ChangeSpec := { name := "meterSums", fn := fun _ => fun
  | [d1, d2] => { results := [.lit (.bool true)], args := [d1, d2] }
  | _ => none }
def meterSumsRow : OpenClaim := { program := "ytadoecimcbgkjaa", sum := "4bda9590ec3fa861dce0d47d2340dd119296de157d6068d18d29a19e73d8fb8d", func := "covenant/covenantlaw09.MeterSums", spec := "meterSums", unfollowed := true, recurses := true, apart := false }
def MeterSumsSaid : Prop := meterSumsRow.holds Try.pinned (OpenSpec.ofChange meterSumsSpec)

/-- ITS FALSE NEIGHBOUR: 'it returns false'. Refute it at one input. -/
def meterSumsWrong : ChangeSpec := { name := "meterSums", fn := fun _ => fun
  | [d1, d2] => { results := [.lit (.bool false)], args := [d1, d2] }
  | _ => none }
def MeterSumsWrongFalsely : Prop := meterSumsRow.holds Try.pinned (OpenSpec.ofChange meterSumsWrong)

/-- 'covenantlaw09.MeterTexts': WHATEVER THE INPUT: true; the input reads as it did. -/
def meterTextsSpec : ChangeSpec := { name := "meterTexts", fn := fun _ => fun
  | [d1, d2, d3] => { results := [.lit (.bool true)], args := [d1, d2, d3] }
  | _ => none }
def meterTextsRow : OpenClaim := { program := "ytadoecimcbgkjaa", sum := "4bda9590ec3fa861dce0d47d2340dd119296de157d6068d18d29a19e73d8fb8d", func := "covenant/covenantlaw09.MeterTexts", spec := "meterTexts", unfollowed := true, recurses := true, apart := false }
def MeterTextsSaid : Prop := meterTextsRow.holds Try.pinned (OpenSpec.ofChange meterTextsSpec)

/-- ITS FALSE NEIGHBOUR: 'it returns false'. Refute it at one input. -/
def meterTextsWrong : ChangeSpec := { name := "meterTexts", fn := fun _ => fun
  | [d1, d2, d3] => { results := [.lit (.bool false)], args := [d1, d2, d3] }
  | _ => none }
def MeterTextsWrongFalsely : Prop := meterTextsRow.holds Try.pinned (OpenSpec.ofChange meterTextsWrong)

/-- 'covenantlaw09.MeterEdges': WHATEVER THE INPUT: true; the input reads as it did. -/
def meterEdgesSpec : ChangeSpec := { name := "meterEdges", fn := fun _ => fun
  | [d1, d2] => { results := [.lit (.bool true)], args := [d1, d2] }
  | _ => none }
def meterEdgesRow : OpenClaim := { program := "ytadoecimcbgkjaa", sum := "4bda9590ec3fa861dce0d47d2340dd119296de157d6068d18d29a19e73d8fb8d", func := "covenant/covenantlaw09.MeterEdges", spec := "meterEdges", unfollowed := true, recurses := true, apart := false }
def MeterEdgesSaid : Prop := meterEdgesRow.holds Try.pinned (OpenSpec.ofChange meterEdgesSpec)

/-- ITS FALSE NEIGHBOUR: 'it returns false'. Refute it at one input. -/
def meterEdgesWrong : ChangeSpec := { name := "meterEdges", fn := fun _ => fun
  | [d1, d2] => { results := [.lit (.bool false)], args := [d1, d2] }
  | _ => none }
def MeterEdgesWrongFalsely : Prop := meterEdgesRow.holds Try.pinned (OpenSpec.ofChange meterEdgesWrong)

/- THE SECOND FORM. 'bulk': how many values and letters a reading holds, each counted each time it is reached (what is shared counts as often as it is met; a slice's spare places count too). A statement '..UptoSaid' is the law's where the arguments, and the package variables that the reading takes, are together of bulk at most 1048576: NARROWER than '..Said'. Prove '..Said' where nothing that the law and all that it calls make is longer than what came in: it says more and counts as full. Else prove '..UptoSaid'. A law counts once. -/
mutual
def uptoBulk {H : Type} : DataW H → Nat
  | .lit (.string bytes) => bytes.length + 1
  | .lit _ => 1
  | .nil => 1
  | .ptr d => uptoBulk d + 1
  | .slice elems spare => uptoBulkAll elems + uptoBulkAll spare + 1
  | .agg parts => uptoBulkAll parts + 1
  | .iface _ d => uptoBulk d + 1
  | .map entries => uptoBulkEntries entries + 1
  | .held _ => 1
def uptoBulkAll {H : Type} : List (DataW H) → Nat
  | [] => 0
  | d :: r => uptoBulk d + uptoBulkAll r
def uptoBulkEntries {H : Type} : List (Lit × DataW H) → Nat
  | [] => 0
  | x :: r => uptoBulkEntry x + uptoBulkEntries r
def uptoBulkEntry {H : Type} : Lit × DataW H → Nat
  | (.string bytes, d) => bytes.length + uptoBulk d + 1
  | (_, d) => uptoBulk d + 1
 end
def uptoSmall : (H : Type) → List (DataW H) → Bool := fun _ ds => decide (uptoBulkAll ds ≤ 1048576)
def OpenSpec.upto (s : _root_.Go.ChangeSpec) : _root_.Go.OpenSpec := { _root_.Go.OpenSpec.ofChange s with cond := some uptoSmall }

/-- 'covenantlaw09.MeterTells', WHERE WHAT IT READS IS OF BULK AT MOST 1048576: true; the input reads as it did. -/
def meterTellsUptoRow : OpenClaim := { program := "ytadoecimcbgkjaa", sum := "4bda9590ec3fa861dce0d47d2340dd119296de157d6068d18d29a19e73d8fb8d", func := "covenant/covenantlaw09.MeterTells", spec := "meterTells", unfollowed := true, recurses := true, apart := false, narrowed := true }
def MeterTellsUptoSaid : Prop := meterTellsUptoRow.holds Try.pinned (OpenSpec.upto meterTellsSpec)

/-- 'covenantlaw09.MeterSums', WHERE WHAT IT READS IS OF BULK AT MOST 1048576: true; the input reads as it did. -/
def meterSumsUptoRow : OpenClaim := { program := "ytadoecimcbgkjaa", sum := "4bda9590ec3fa861dce0d47d2340dd119296de157d6068d18d29a19e73d8fb8d", func := "covenant/covenantlaw09.MeterSums", spec := "meterSums", unfollowed := true, recurses := true, apart := false, narrowed := true }
def MeterSumsUptoSaid : Prop := meterSumsUptoRow.holds Try.pinned (OpenSpec.upto meterSumsSpec)

/-- 'covenantlaw09.MeterTexts', WHERE WHAT IT READS IS OF BULK AT MOST 1048576: true; the input reads as it did. -/
def meterTextsUptoRow : OpenClaim := { program := "ytadoecimcbgkjaa", sum := "4bda9590ec3fa861dce0d47d2340dd119296de157d6068d18d29a19e73d8fb8d", func := "covenant/covenantlaw09.MeterTexts", spec := "meterTexts", unfollowed := true, recurses := true, apart := false, narrowed := true }
def MeterTextsUptoSaid : Prop := meterTextsUptoRow.holds Try.pinned (OpenSpec.upto meterTextsSpec)

/-- 'covenantlaw09.MeterEdges', WHERE WHAT IT READS IS OF BULK AT MOST 1048576: true; the input reads as it did. -/
def meterEdgesUptoRow : OpenClaim := { program := "ytadoecimcbgkjaa", sum := "4bda9590ec3fa861dce0d47d2340dd119296de157d6068d18d29a19e73d8fb8d", func := "covenant/covenantlaw09.MeterEdges", spec := "meterEdges", unfollowed := true, recurses := true, apart := false, narrowed := true }
def MeterEdgesUptoSaid : Prop := meterEdgesUptoRow.holds Try.pinned (OpenSpec.upto meterEdgesSpec)

end Rows
end Go.Proofs.Ytadoecimcbgkjaa
