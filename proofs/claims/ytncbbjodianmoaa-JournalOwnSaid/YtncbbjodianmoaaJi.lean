/- The number of changes of a journal, by its row of closures alone. Conditions: the row lies in memory. -/
import Derived.Test.YtncbbjodianmoaaJe
namespace Go.Proofs.Ytncbbjodianmoaa
open Go.RowKit
set_option linter.unusedSimpArgs false
set_option linter.unusedVariables false
set_option maxHeartbeats 400000 in
theorem markRaw (w : World) (J : Nat) (R : Option Addr) (n cr : Nat) (h : w.cell? ⟨J, 1, none⟩ = some (.slice R n cr)) :
    Calls Try.prog 20 #[.pointer (some ⟨J, 0, none⟩)] w fun e w' => e = .returned (.int .i64 n) ∧ w = w' := by
  go_enter Try.func20, Try.ntmps20
  go_wp2
  go_ret
  exact ⟨rfl, rfl⟩
end Go.Proofs.Ytncbbjodianmoaa
