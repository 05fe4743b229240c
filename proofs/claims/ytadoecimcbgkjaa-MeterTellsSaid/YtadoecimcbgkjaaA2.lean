/- What 'New' returns. Conditions: none. -/
import Derived.Test.YtadoecimcbgkjaaA
namespace Go.Proofs.Ytadoecimcbgkjaa
open Go.RowKit
set_option linter.unusedVariables false
set_option maxHeartbeats 400000 in
theorem newC (n : Int) (w : World) : Calls Try.prog 10 #[.int .i64 n] w fun e w' => e = .returned (GV (newL n) 0) ∧ Below w.heap.size w w' := by
  have hm : newL n = up 100000 n := rfl
  rw [hm]
  have HK := Lib.hid (upToC 100000)
  have HZ : Hid (∀ w1, Below (w.alloc (gO 0 0)).heap.size (w.alloc (gO 0 0)) w1 → w1.there w.heap.size 0 2 ∧ Below w.heap.size w w1) := fun w1 h => ⟨there_below (at_new w 0 0).2 h (by simp), bthen (below_alloc w _) h (by simp)⟩
  go_enter Try.func10, Try.ntmps10
  go_wp2_with fail
  with_reducible refine (HK.out _).mono ?_
  rintro e w1 ⟨rfl, b1, c1, s1⟩
  have HT := Lib.hid (HZ.out w1 b1)
  have K := Lib.hid (upC 100000 n _ _ c1)
  clear b1 c1 s1 HK HZ hm
  generalize (w.alloc (Obj.cells #[Value.int IntKind.i64 0, Value.int IntKind.i64 0] 23)).heap.size = B at *
  go_wp2_with fail
  with_reducible refine K.out.mono ?_
  rintro e w2 ⟨rfl, rfl⟩
  go_wp2_with (refine wpList_storeN info23s rfl (.tmp 2) (.tmp 6) rfl rfl w.heap.size rfl [_, _] rfl rfl HT.out.1 (by simp [Value.oneCell']) ?_; intro w2 g1 g2 g3 g4 g5)
  refine bodyPost_ret (ret_cell (cs := [_, _]) Try.results10 Try.underlying23 rfl info23s _ _ w.heap.size rfl g1) rfl ?_
  exact ⟨rfl, HT.out.2.trans g3⟩
end Go.Proofs.Ytadoecimcbgkjaa
