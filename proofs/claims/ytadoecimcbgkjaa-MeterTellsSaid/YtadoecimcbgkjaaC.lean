/- The live question ahead of each statement, and the walk of MeterTexts. Conditions: lengths are of 16 bits. -/
import Derived.Test.YtadoecimcbgkjaaA2
import Derived.Test.YtadoecimcbgkjaaB
namespace Go.Proofs.Ytadoecimcbgkjaa
open Go.RowKit
set_option linter.unusedVariables false
set_option maxRecDepth 100000
theorem useL (l u n u' : Int) (b : Bool) (hl : fits l) (hu : fits u) (hn : fits n) (h1 : useB l u n = b) (h2 : useU l u n = u') (w : World) : Calls Try.prog 8 #[GV l u, .int .i64 n] w fun e w' => e = .returned (.tuple #[GV l u', .bool b]) ∧ Below w.heap.size w w' := by
  subst h1 h2
  exact useC l u n w hl hu hn
theorem newLit (n l : Int) (h : newL n = l) (w : World) : Calls Try.prog 10 #[.int .i64 n] w fun e w' => e = .returned (GV l 0) ∧ Below w.heap.size w w' := by
  subst h
  exact newC n w
theorem textsL (n c : Int) (hn : fits n) (h : cost (max n 0) = c) (w : World) : Calls Try.prog 12 #[.int .i64 n] w fun e w' => e = .returned (.int .i64 c) ∧ Below w.heap.size w w' := by
  subst h
  exact textsC n w hn
theorem putL (k v c : Int) (h : putN k v = c) (w : World) : Calls Try.prog 14 #[.int .i64 k, .int .i64 v] w fun e w' => e = .returned (.int .i64 c) ∧ Below w.heap.size w w' := by
  subst h
  exact putC k v w

set_option maxHeartbeats 800000 in
theorem head_true (w : World) : Calls Try.prog 7 #[] w fun e w' => e = .returned (.bool true) ∧ Below w.heap.size w w' := by
  have K0 := Lib.hid (newLit 10 10 (by decide))
  have K1 := Lib.hid (useL 10 0 4 4 true (by decide) (by decide) (by decide) (by decide) (by decide))
  have K2 := Lib.hid (useL 10 4 6 10 true (by decide) (by decide) (by decide) (by decide) (by decide))
  have K3 := Lib.hid (useL 10 10 1 10 false (by decide) (by decide) (by decide) (by decide) (by decide))
  have K4 := Lib.hid (textsL 31 1 (by decide) (by decide))
  have K5 := Lib.hid (putL 8 8 5 (by decide))
  go_enter Try.func7, Try.ntmps7
  go_wp2_with fail
  with_reducible refine (K0.out _).mono ?_
  rintro e w1 ⟨rfl, b1⟩
  have B1 := Lib.hid b1
  clear b1
  go_wp2_with fail
  with_reducible refine (K1.out _).mono ?_
  rintro e w2 ⟨rfl, b2⟩
  have B2 := Lib.hid (bthen B1.out b2 B1.out.size)
  clear b2 B1
  go_wp2_with fail
  with_reducible refine (K2.out _).mono ?_
  rintro e w3 ⟨rfl, b3⟩
  have B3 := Lib.hid (bthen (B2.out.alloc B2.out.size _) b3 (B2.out.alloc B2.out.size _).size)
  clear b3 B2
  go_wp2_with fail
  with_reducible refine (K3.out _).mono ?_
  rintro e w4 ⟨rfl, b4⟩
  have B4 := Lib.hid (bthen (B3.out.alloc B3.out.size _) b4 (B3.out.alloc B3.out.size _).size)
  clear b4 B3
  go_wp2_with fail
  with_reducible refine (K4.out _).mono ?_
  rintro e w5 ⟨rfl, b5⟩
  have B5 := Lib.hid (bthen (B4.out.alloc B4.out.size _) b5 (B4.out.alloc B4.out.size _).size)
  clear b5 B4
  go_wp2_with fail
  with_reducible refine (K5.out _).mono ?_
  rintro e w6 ⟨rfl, b6⟩
  have B6 := Lib.hid (bthen B5.out b6 B5.out.size)
  clear b6 B5
  go_wp2
  go_ret
  exact ⟨rfl, B6.out⟩
end Go.Proofs.Ytadoecimcbgkjaa
