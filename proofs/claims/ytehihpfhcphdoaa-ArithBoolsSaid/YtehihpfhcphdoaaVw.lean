/- The walk of ArithBools. Conditions: its int is of 64 bits. -/
import Derived.Test.YtehihpfhcphdoaaVa
import Derived.Test.YtehihpfhcphdoaaVb
namespace Go.Proofs.Ytehihpfhcphdoaa
open Go.RowKit
set_option maxRecDepth 100000

theorem bools_walk (a b : Bool) (n : Int) (w : World) (hn : fits n) : Calls Try.prog 7 #[.bool a, .bool b, .int .i64 n] w fun e w' => e = .returned (.bool true) ∧ Below w.heap.size w w' := by
  cases a
  · cases b
    · exact bools_ff n w hn
    · exact bools_ft n w hn
  · cases b
    · exact bools_tf n w hn
    · exact bools_tt n w hn
end Go.Proofs.Ytehihpfhcphdoaa
