/- Closed facts on the program that every row's proof asks. Conditions: none. -/
import Derived.Test.YtncbbjodianmoaaRows
import Derived.WalkKit
import Derived.ProofKit
namespace Go.Proofs.Ytncbbjodianmoaa

theorem own : ownKnob Try.prog.godebug = none := by kernel_rfl
theorem laidOut : laidOutB Try.prog = true := by kernel_rfl
theorem cells5 : Try.prog.cellsOf 5 = 1 := by kernel_rfl
theorem cells22 : Try.prog.cellsOf 30 = 1 := by kernel_rfl

end Go.Proofs.Ytncbbjodianmoaa
