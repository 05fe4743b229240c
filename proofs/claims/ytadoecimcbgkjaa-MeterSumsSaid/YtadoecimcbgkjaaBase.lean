/- Closed facts on the program that every row's proof asks. Conditions: none. -/
import Derived.Test.YtadoecimcbgkjaaRows
import Derived.WalkKit
import Derived.ProofKit
namespace Go.Proofs.Ytadoecimcbgkjaa

theorem own : ownKnob Try.prog.godebug = none := by kernel_rfl
theorem laidOut : laidOutB Try.prog = true := by kernel_rfl
theorem cells23 : Try.prog.cellsOf 23 = 2 := by kernel_rfl
theorem cells32 : Try.prog.cellsOf 32 = 1 := by kernel_rfl

end Go.Proofs.Ytadoecimcbgkjaa
