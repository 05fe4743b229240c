/- Closed facts of the row of SyntaxParses. -/
import Derived.Test.YtcilgkdnjgmogaaGreatDoorRows
import Derived.JoinedOf
namespace Go.Proofs.YtcilgkdnjgmogaaGreatDoor
open Go Go.ChangeShapes Go.WideShapes
set_option maxRecDepth 100000
theorem syntaxParses_inPlace : (Rows.syntaxParsesRow.inPlace == Tryz.prog.inPlace 3) = true := by kernel_rfl
theorem syntaxParses_unfollowed : (Rows.syntaxParsesRow.unfollowed == Tryz.prog.unfollowed 3) = true := by kernel_rfl
theorem syntaxParses_recurses : (Rows.syntaxParsesRow.recurses == Tryz.prog.recurses 3) = true := by kernel_rfl
theorem syntaxParses_named : (Rows.syntaxParsesRow.named == Tryz.prog.varsNamed 3) = true := by kernel_rfl
theorem syntaxParses_laid : laidOutB Tryz.prog = true := by kernel_rfl
theorem syntaxParses_rowed : mapsRowed Tryz.prog = true := by kernel_rfl
theorem syntaxParses_facts : joinedFacts Tryz.prog 3 Tryz.f3 Rows.syntaxParsesSpec Rows.syntaxParsesRow = true := by
  unfold joinedFacts
  rw [syntaxParses_inPlace, syntaxParses_unfollowed, syntaxParses_recurses, syntaxParses_named, syntaxParses_laid, syntaxParses_rowed]
  kernel_rfl
end Go.Proofs.YtcilgkdnjgmogaaGreatDoor
