/- 'Undo' of a journal, at any mark. Conditions: the journal lies in memory. -/
import Derived.Test.YtncbbjodianmoaaJj
import Derived.Test.YtncbbjodianmoaaJk
namespace Go.Proofs.Ytncbbjodianmoaa
open Go.RowKit
set_option linter.unusedSimpArgs false
set_option linter.unusedVariables false

theorem undoC (n0 : Nat) (w : World) (J : Nat) (hs : List (List PR)) (cur : List PR) (h : Jr n0 w J hs cur) (m : Nat) (hm : m ≤ hs.length) (res : List PR) (hres : (hs ++ [cur])[m]? = some res) :
    Calls Try.prog 16 #[.pointer (some ⟨J, 0, none⟩), .int .i64 m] w fun e w' => e = .returned (.int .i64 0) ∧ Chd n0 J w (hs.take m) res w' := by
  obtain ⟨A, c, R, cr, g0, g1, g2, g3, g4, g5⟩ := h.at
  have one : ∀ R' cr', w.cell? ⟨J, 1, none⟩ = some (.slice R' hs.length cr') → cr' = cr := fun R' cr' e => by
    rw [g1] at e
    injection e with e
    injection e with _ _ e
    exact e.symm
  by_cases hc : cr = m
  · exact undoC_eq n0 w J hs cur h m hm res hres fun R' cr' e => (one R' cr' e).trans hc
  · exact undoC_lt n0 w J hs cur h m hm res hres fun R' cr' e => by rw [one R' cr' e]; exact hc

set_option maxHeartbeats 800000 in
theorem undoBad (n0 : Nat) (w : World) (J : Nat) (hs : List (List PR)) (cur : List PR) (h : Jr n0 w J hs cur) (m : Int) (hm : m < 0 ∨ (hs.length : Int) < m) :
    Calls Try.prog 16 #[.pointer (some ⟨J, 0, none⟩), .int .i64 m] w fun e w' => e = .returned (.int .i64 1) ∧ Below w.heap.size w w' := by
  have HB := Lib.hid (below_alloc w (.cells #[.pointer (some ⟨J, 0, none⟩)] 25))
  have HM := Lib.hid (markC n0 _ J hs cur (h.on HB.out))
  clear h
  by_cases h0 : m < 0
  · clear hm
    go_enter Try.func16, Try.ntmps16
    go_wp2
    go_ret
    exact ⟨rfl, HB.out⟩
  · have h1 : (hs.length : Int) < m := by omega
    clear hm
    go_enter Try.func16, Try.ntmps16
    go_wp2_with fail
    (with_reducible refine HM.out.mono ?_)
    rintro e w1 ⟨rfl, rfl⟩
    go_wp2
    go_ret
    exact ⟨rfl, HB.out⟩
end Go.Proofs.Ytncbbjodianmoaa
