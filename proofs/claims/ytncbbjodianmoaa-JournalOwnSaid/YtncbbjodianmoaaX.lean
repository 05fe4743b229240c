/- What the document's own answers return of byte strings and rows: the same as the program's. Conditions: none beyond what a slice is. -/
import Derived.Test.YtncbbjodianmoaaV
namespace Go.Proofs.Ytncbbjodianmoaa
open Go.RowKit

theorem be4' (n : Int) : be n 3 4 = [n / 16777216 % 256, n / 65536 % 256, n / 256 % 256, n % 256] := by
  simp [be, List.range_succ]

/-- how far 'PutRow' has come -/
def PutRel (w : World) (ls : List (List Int)) (k : Nat) (v : Value) (wr : World) : Prop :=
  wr.ownsRow w.heap.size 5 1 v (4 + szTo ls k) (cellsOf (be ls.length 3 4 ++ bsTo ls k)) ∧ Below w.heap.size w wr

end Go.Proofs.Ytncbbjodianmoaa
