/- What 'appendBytes', 'PutNum', 'PutBool' and 'PutBytes' return: the document's bytes, in new memory. Conditions: none beyond what a slice is. -/
import Derived.Test.YtncbbjodianmoaaB
import Derived.Test.YtncbbjodianmoaaMem
namespace Go.Proofs.Ytncbbjodianmoaa
open Go.RowKit

end Go.Proofs.Ytncbbjodianmoaa
