/- What 'Use' returns, the program's and the document's. Conditions: numbers are of 64 bits. -/
import Derived.Test.YtadoecimcbgkjaaA
namespace Go.Proofs.Ytadoecimcbgkjaa
open Go.RowKit
set_option linter.unusedVariables false
/-- is there so much left? -/
def useB (l u n : Int) : Bool := decide (0 ≤ u ∧ u ≤ l ∧ 0 ≤ n ∧ n ≤ l - u)
/-- what is used then -/
def useU (l u n : Int) : Int := if 0 ≤ u ∧ u ≤ l ∧ 0 ≤ n ∧ n ≤ l - u then u + n else l
theorem use_yes {l u n : Int} (h : 0 ≤ u ∧ u ≤ l ∧ 0 ≤ n ∧ n ≤ l - u) : useB l u n = true ∧ useU l u n = u + n := ⟨decide_eq_true h, if_pos h⟩
theorem use_no {l u n : Int} (h : ¬(0 ≤ u ∧ u ≤ l ∧ 0 ≤ n ∧ n ≤ l - u)) : useB l u n = false ∧ useU l u n = l := ⟨decide_eq_false h, if_neg h⟩
theorem use_eq {l y u n : Int} {b : Bool} (h : useB l u n = b ∧ useU l u n = y) : Ending.returned (.tuple #[GV l y, .bool b]) = .returned (.tuple #[GV l (useU l u n), .bool (useB l u n)]) := by rw [h.1, h.2]
theorem use_leaf {l y u n : Int} {b : Bool} (hl : fits l) (hu : fits u) (hn : fits n) (h : (b = false ∧ y = l ∧ (u < 0 ∨ l < u ∨ n < 0 ∨ (0 ≤ u ∧ u ≤ l ∧ wrap64 (l - u) < n))) ∨ (b = true ∧ y = wrap64 (u + n) ∧ 0 ≤ u ∧ u ≤ l ∧ 0 ≤ n ∧ n ≤ wrap64 (l - u))) : useB l u n = b ∧ useU l u n = y := by
  unfold fits at *
  rcases h with ⟨rfl, rfl, h⟩ | ⟨rfl, rfl, h0, h1, h2, h3⟩
  · refine use_no ?_
    unfold wrap64 at h
    omega
  · have hs : 0 ≤ u ∧ u ≤ l ∧ 0 ≤ n ∧ n ≤ l - u := by unfold wrap64 at h3; omega
    exact ⟨(use_yes hs).1, (use_yes hs).2.trans (by unfold wrap64; omega)⟩
theorem range_two (w : World) (o : Obj) (cs : List Value) (T : TypeId) : ((w.alloc o).alloc (.cells cs.toArray T)).rangeAt (w.heap.size + 1) 0 cs := by
  have h := range_of (T := T) (heap_alloc_new (w.alloc o) (.cells cs.toArray T (0, 0)))
  rwa [World.size_alloc] at h
theorem below_two (w : World) (a b : Obj) : Below w.heap.size w ((w.alloc a).alloc b) := (below_alloc w a).alloc (by simp) b
set_option maxHeartbeats 1600000 in
theorem useC (l u n : Int) (w : World) (hl : fits l) (hu : fits u) (hn : fits n) : Calls Try.prog 8 #[GV l u, .int .i64 n] w fun e w' => e = .returned (.tuple #[GV l (useU l u n), .bool (useB l u n)]) ∧ Below w.heap.size w w' := by
  have HL := Lib.hid hl
  have HU := Lib.hid hu
  have HN := Lib.hid hn
  clear hl hu hn
  go_enter Try.func8, Try.ntmps8
  go_wp2
  all_goals refine bodyPost_ret (ret_cell2 (cs := [_, _]) Try.results8 Try.underlying23 rfl info23s _ _ (w.heap.size + 1) rfl (range_two w _ _ _)) rfl ?_
  all_goals exact ⟨use_eq (use_leaf HL.out HU.out HN.out (by first | exact .inl ⟨rfl, rfl, by omega⟩ | exact .inr ⟨rfl, rfl, by omega, by omega, by omega, by omega⟩)), below_two _ _ _⟩
set_option maxHeartbeats 1600000 in
theorem refUseC (l u n : Int) (w : World) (hl : fits l) (hu : fits u) (hn : fits n) : Calls Try.prog 9 #[GV l u, .int .i64 n] w fun e w' => e = .returned (.tuple #[GV l (useU l u n), .bool (useB l u n)]) ∧ Below w.heap.size w w' := by
  have HL := Lib.hid hl
  have HU := Lib.hid hu
  have HN := Lib.hid hn
  clear hl hu hn
  go_enter Try.func9, Try.ntmps9
  go_wp2
  all_goals refine bodyPost_ret (ret_cell2 (cs := [_, _]) Try.results9 Try.underlying23 rfl info23s _ _ (w.heap.size + 1) rfl (range_two w _ _ _)) rfl ?_
  all_goals exact ⟨use_eq (use_leaf HL.out HU.out HN.out (by first | exact .inl ⟨rfl, rfl, by omega⟩ | exact .inr ⟨rfl, rfl, by omega, by omega, by omega, by omega⟩)), below_two _ _ _⟩
end Go.Proofs.Ytadoecimcbgkjaa
