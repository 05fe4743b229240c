/- What the program's functions of gas return. Conditions: numbers are of 64 bits. -/
import Derived.Test.YtadoecimcbgkjaaMem
namespace Go.Proofs.Ytadoecimcbgkjaa
open Go.RowKit
set_option linter.unusedVariables false

/-- brought to the nearest one from 0 to m -/
def up (m n : Int) : Int := min (max n 0) m
theorem up_fits {m n : Int} (hm : fits m) (hn : fits n) : fits (up m n) := by unfold up fits at *; omega
/-- what n bytes cost -/
def cost (n : Int) : Int := n.tdiv 16
theorem cost_bound {n : Int} (hn : fits n) : -576460752303423488 ≤ cost n ∧ cost n ≤ 576460752303423488 := by
  have h := Int.natAbs_tdiv n 16
  rw [show n.natAbs.div (Int.natAbs 16) = n.natAbs / 16 from rfl] at h
  unfold cost fits at *
  omega
theorem cost_pos {n : Int} (hn : 0 ≤ n) : cost n = n / 16 := Int.tdiv_eq_ediv_of_nonneg hn
theorem wrap_id {x : Int} (h : fits x) : wrap64 x = x := by unfold fits at h; unfold wrap64; omega

set_option maxHeartbeats 400000 in
theorem upC (m n : Int) (B : Nat) (w : World) (hc : w.cell? ⟨B, 0, none⟩ = some (.int .i64 m)) : Calls Try.prog 18 #[.int .i64 n, .pointer (some ⟨B, 0, none⟩)] w fun e w' => e = .returned (.int .i64 (up m n)) ∧ w' = w := by
  go_enter Try.func18, Try.ntmps18
  go_wp2
  all_goals go_ret
  all_goals exact ⟨congrArg (fun x => Ending.returned (Value.int .i64 x)) (by unfold up; omega), rfl⟩

set_option maxHeartbeats 400000 in
theorem upToC (m : Int) (w : World) : Calls Try.prog 16 #[.int .i64 m] w fun e w' => e = .returned (.func (.func 18) #[] #[.pointer (some ⟨w.heap.size, 0, none⟩)]) ∧ Below w.heap.size w w' ∧ w'.cell? ⟨w.heap.size, 0, none⟩ = some (.int .i64 m) ∧ w'.heap.size = w.heap.size + 1 := by
  have hmf : ∀ (fn : Fn) (first cap : Array Value) (w : World), (Instr.makeFunc fn first cap).run Try.prog w = .ok (.func fn first cap) w := fun _ _ _ _ => rfl
  go_enter Try.func16, Try.ntmps16
  go_wp2
  go_ret
  exact ⟨rfl, below_alloc _ _, by rw [cell_of_row _ _ _ _ _ _ (heap_alloc_new w _)]; rfl, by simp⟩

set_option maxHeartbeats 400000 in
theorem piecesC (n : Int) (w : World) (hn : fits n) : Calls Try.prog 17 #[.int .i64 n] w fun e w' => e = .returned (.int .i64 (cost n)) ∧ w' = w := by
  have hw : wrap64 (n.tdiv 16) = cost n := wrap_id (by have := cost_bound hn; unfold cost at this; unfold fits; omega)
  have HW := Lib.hid hw
  clear hn hw
  go_enter Try.func17, Try.ntmps17
  go_wp2
  go_ret
  exact ⟨congrArg (fun x => Ending.returned (Value.int .i64 x)) HW.out, rfl⟩

def newL (n : Int) : Int := up 100000 n
set_option maxHeartbeats 400000 in
theorem refNewC (n : Int) (w : World) : Calls Try.prog 11 #[.int .i64 n] w fun e w' => e = .returned (GV (newL n) 0) ∧ Below w.heap.size w w' := by
  go_enter Try.func11, Try.ntmps11
  go_wp2
  all_goals refine bodyPost_ret (ret_cell (cs := [_, _]) Try.results11 Try.underlying23 rfl info23s _ _ w.heap.size rfl (range_of (heap_alloc_new w _))) rfl ?_
  all_goals exact ⟨congrArg (fun x => Ending.returned (GV x 0)) (by unfold newL up; omega), below_alloc _ _⟩

set_option maxHeartbeats 400000 in
theorem textsC (n : Int) (w : World) (hn : fits n) : Calls Try.prog 12 #[.int .i64 n] w fun e w' => e = .returned (.int .i64 (cost (max n 0))) ∧ Below w.heap.size w w' := by
  have HE : Hid (up 9223372036854775807 n = max n 0) := by show _ = _; unfold up fits at *; omega
  have HF : Hid (fits (max n 0)) := by show fits _; unfold fits at *; omega
  clear hn
  go_enter Try.func12, Try.ntmps12
  go_wp2_with fail
  refine (upToC _ _).mono ?_
  rintro e w1 ⟨rfl, b1, c1, s1⟩
  have B1 := Lib.hid b1
  have K := Lib.hid (upC 9223372036854775807 n _ _ c1)
  clear b1 c1 s1
  go_wp2_with fail
  refine K.out.mono ?_
  rintro e w2 ⟨rfl, rfl⟩
  rw [HE.out]
  go_wp2_with fail
  refine (piecesC _ _ HF.out).mono ?_
  rintro e w3 ⟨rfl, rfl⟩
  go_wp2
  go_ret
  exact ⟨rfl, B1.out⟩
set_option maxHeartbeats 400000 in
theorem refTextsC (n : Int) (w : World) (hn : fits n) : Calls Try.prog 13 #[.int .i64 n] w fun e w' => e = .returned (.int .i64 (cost (max n 0))) ∧ w' = w := by
  have h1 : 0 ≤ n → wrap64 (n.tdiv 16) = cost (max n 0) := fun h => by rw [show max n 0 = n by omega]; exact wrap_id (by have := cost_bound hn; unfold cost at this; unfold fits; omega)
  have H1 := Lib.hid h1
  clear hn h1
  go_enter Try.func13, Try.ntmps13
  go_wp2
  all_goals go_ret
  · exact ⟨congrArg (fun x => Ending.returned (Value.int .i64 x)) (by rw [show max n 0 = 0 by omega]; simp [wrap64, cost]), rfl⟩
  · exact ⟨congrArg (fun x => Ending.returned (Value.int .i64 x)) (H1.out (by omega)), rfl⟩

/-- what storing costs -/
def putN (k v : Int) : Int := 4 + cost (up 2147483648 k + up 2147483648 v)
set_option maxHeartbeats 400000 in
theorem putC (k v : Int) (w : World) : Calls Try.prog 14 #[.int .i64 k, .int .i64 v] w fun e w' => e = .returned (.int .i64 (putN k v)) ∧ Below w.heap.size w w' := by
  have hb : 0 ≤ up 2147483648 k + up 2147483648 v ∧ up 2147483648 k + up 2147483648 v ≤ 4294967296 := by unfold up; omega
  have hw : wrap64 (up 2147483648 k + up 2147483648 v) = up 2147483648 k + up 2147483648 v := wrap_id (by unfold fits; omega)
  have HF : Hid (fits (up 2147483648 k + up 2147483648 v)) := by show fits _; unfold fits; omega
  have hw2 : wrap64 (4 + cost (up 2147483648 k + up 2147483648 v)) = putN k v := wrap_id (by rw [cost_pos hb.1]; unfold fits; omega)
  clear hb
  have K3 : Hid (∀ w, Calls Try.prog 17 #[.int .i64 (wrap64 (up 2147483648 k + up 2147483648 v))] w fun e w' => e = .returned (.int .i64 (cost (up 2147483648 k + up 2147483648 v))) ∧ w' = w) := fun w => by rw [hw]; exact piecesC _ _ HF.out
  have HW2 := Lib.hid hw2
  clear hw hw2 HF
  go_enter Try.func14, Try.ntmps14
  go_wp2_with fail
  refine (upToC _ _).mono ?_
  rintro e w1 ⟨rfl, b1, c1, s1⟩
  have B1 := Lib.hid b1
  have K1 := Lib.hid (upC 2147483648 k _ _ c1)
  have K2 := Lib.hid (upC 2147483648 v _ _ c1)
  clear b1 c1 s1
  go_wp2_with fail
  refine K1.out.mono ?_
  rintro e w2 ⟨rfl, rfl⟩
  go_wp2_with fail
  refine K2.out.mono ?_
  rintro e w2 ⟨rfl, rfl⟩
  go_wp2_with fail
  refine (K3.out _).mono ?_
  rintro e w3 ⟨rfl, rfl⟩
  go_wp2
  go_ret
  exact ⟨congrArg (fun x => Ending.returned (Value.int .i64 x)) HW2.out, B1.out⟩
set_option maxHeartbeats 800000 in
theorem refPutC (k v : Int) (w : World) : Calls Try.prog 15 #[.int .i64 k, .int .i64 v] w fun e w' => e = .returned (.int .i64 (putN k v)) ∧ w' = w := by
  have hb : 0 ≤ up 2147483648 k + up 2147483648 v ∧ up 2147483648 k + up 2147483648 v ≤ 4294967296 := by unfold up; omega
  have K : Hid (∀ (x : Int) (w : World), x = up 2147483648 k + up 2147483648 v → Calls Try.prog 13 #[.int .i64 x] w fun e w' => e = .returned (.int .i64 (cost (up 2147483648 k + up 2147483648 v))) ∧ w' = w) := fun x w hx => by
    subst hx
    have h := refTextsC (up 2147483648 k + up 2147483648 v) w (by unfold fits; omega)
    rwa [show max (up 2147483648 k + up 2147483648 v) 0 = up 2147483648 k + up 2147483648 v by omega] at h
  have HW2 : Hid (wrap64 (4 + cost (up 2147483648 k + up 2147483648 v)) = putN k v) := wrap_id (by rw [cost_pos hb.1]; unfold fits; omega)
  clear hb
  go_enter Try.func15, Try.ntmps15
  go_wp2_with fail
  all_goals refine (K.out _ _ (by unfold up; first | omega | (unfold wrap64; omega))).mono ?_
  all_goals rintro e w2 ⟨rfl, rfl⟩
  all_goals go_wp2
  all_goals go_ret
  all_goals exact ⟨congrArg (fun x => Ending.returned (Value.int .i64 x)) HW2.out, rfl⟩
end Go.Proofs.Ytadoecimcbgkjaa
