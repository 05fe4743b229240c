/- The document's own answer 'Same' says of one row, held twice, that it is alike. Conditions: none beyond what a row is. -/
import Derived.Test.YtecjkmemihmkcaaDoorK
import Derived.Deep.QuietTactic
import Derived.BigQuiet
namespace Go.Proofs.YtecjkmemihmkcaaDoor
set_option maxRecDepth 100000
open Go.RowKit

theorem below_drewN {B : Nat} {a w : World} (h : Below B a w) (n : Nat) : Below B a (w.drewN n) := ⟨h.os, h.tape, h.output, h.size, h.block⟩

set_option maxHeartbeats 800000 in
theorem same_true (A1 A2 : Option Addr) (c1 c2 : Nat) (ls : List (List Int)) (w : World) (hl1 : ls.length ≤ c1) (hc1 : c1 ≤ maxLen) (hg1 : Grid w w.heap.size A1 c1 ls) (hg2 : Grid w w.heap.size A2 c2 ls) :
    Calls Tryd.prog 37 #[.slice A1 ls.length c1, .slice A2 ls.length c2] w fun e w' => e = .returned (.bool true) ∧ Below w.heap.size w w' := by
  unfold maxLen at hc1
  have HG1 := Lib.hid hg1
  have HG2 := Lib.hid hg2
  clear hg1 hg2
  go_enter Tryd.func37, Tryd.ntmps37
  go_wp2
  go_loopw [5] (fun i wr => ∃ k : Nat, k ≤ ls.length ∧ i = .int .i64 k ∧ Below w.heap.size w wr) (fun i _ => ls.length - (intOf i).toNat)
  case atStart => exact ⟨0, Nat.zero_le _, rfl, Below.refl _ _⟩
  case round =>
    obtain ⟨k, hk, rfl, hb⟩ := hrel
    by_cases hkl : k < ls.length
    · obtain ⟨l, hl⟩ : ∃ l, ls[k]? = some l := ⟨_, List.getElem?_eq_getElem hkl⟩
      obtain ⟨ad1, B1, d1, rfl, b1, e1, f1, f2, f3⟩ := (HG1.out.below hb).2 k l hl
      obtain ⟨ad2, B2, d2, rfl, b2, e2, f4, f5, f6⟩ := (HG2.out.below hb).2 k l hl
      have g1 := fun nq => run_string_lies (P := Tryd.prog) (wr.drewN nq) 26 9 5 Tryd.underlying26 Tryd.underlying5 Tryd.underlying9 w.heap.size B1 l.length d1 l rfl (f3.below (below_drewN (Below.refl _ _) nq))
      have g2 := fun nq => run_string_lies (P := Tryd.prog) (wr.drewN nq) 26 9 5 Tryd.underlying26 Tryd.underlying5 Tryd.underlying9 w.heap.size B2 l.length d2 l rfl (f6.below (below_drewN (Below.refl _ _) nq))
      generalize strOfNums l = S at *
      clear f3 f6 hl
      have i1 : (k : Int) < (ls.length : Int) := by omega
      go_wp2
      go_quiet (fail)
      clear g1 g2
      go_wp2
      go_roundw
      case rel => exact ⟨k + 1, by omega, by go_num, below_drewN hb _⟩
      case measure => simp [intOf]; omega
    · go_wp2
      go_ret
      exact ⟨rfl, hb⟩
end Go.Proofs.YtecjkmemihmkcaaDoor
