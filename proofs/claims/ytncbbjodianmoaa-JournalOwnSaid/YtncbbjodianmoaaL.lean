/- The document's own answer 'Same' says of one row, held twice, that it is alike. Conditions: none beyond what a row is. -/
import Derived.Test.YtncbbjodianmoaaK
import Derived.Deep.QuietTactic
import Derived.BigQuiet
namespace Go.Proofs.Ytncbbjodianmoaa
open Go.RowKit

theorem below_drewN {B : Nat} {a w : World} (h : Below B a w) (n : Nat) : Below B a (w.drewN n) := ⟨h.os, h.tape, h.output, h.size, h.block⟩

end Go.Proofs.Ytncbbjodianmoaa
