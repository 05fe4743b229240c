/- What 'room' answers at every offset. Conditions: a size from 0 to 65536. -/
import Derived.Test.YtncbbjodianmoaaRows
import Derived.WalkKit
import Derived.WalkSpells
import Derived.WalkLawsBesides
import Derived.Lib.Hide
import Derived.Outline
namespace Go.Proofs.Ytncbbjodianmoaa
open Go.RowKit

/-- what 'room' answers -/
def roomV (n : Nat) (p size : Int) : Int := if p < 0 ∨ (n : Int) < p then 1 else if (n : Int) - p < size then 11 else 0

end Go.Proofs.Ytncbbjodianmoaa
