/- What 'room' answers at every offset. Conditions: a size from 0 to 65536. -/
import Derived.Test.YtecjkmemihmkcaaDoorRows
import Derived.WalkKit
import Derived.WalkSpells
import Derived.WalkLawsBesides
import Derived.Lib.Hide
import Derived.Outline
namespace Go.Proofs.YtecjkmemihmkcaaDoor
set_option maxRecDepth 100000
open Go.RowKit

/-- what 'room' answers -/
def roomV (n : Nat) (p size : Int) : Int := if p < 0 ∨ (n : Int) < p then 1 else if (n : Int) - p < size then 11 else 0

set_option maxHeartbeats 400000 in
theorem room_any (A : Option Addr) (n c : Nat) (p size : Int) (w : World) (hn : n ≤ maxLen) (hp : -9223372036854775808 ≤ p) (hp2 : p ≤ 9223372036854775807) (hs : 0 ≤ size) (hs2 : size ≤ 65536) :
    Calls Tryd.prog 75 #[.slice A n c, .int .i64 p, .int .i64 size] w fun e w' => e = .returned (.int .i64 (roomV n p size)) ∧ w = w' := by
  unfold maxLen at hn
  by_cases h1 : p < 0
  · have hr : roomV n p size = 1 := by unfold roomV; rw [if_pos (Or.inl h1)]
    rw [hr]; clear hr
    go_enter Tryd.func75, Tryd.ntmps75
    go_wp2
    go_ret
    exact ⟨rfl, rfl⟩
  · by_cases h2 : (n : Int) < p
    · have hr : roomV n p size = 1 := by unfold roomV; rw [if_pos (Or.inr h2)]
      rw [hr]; clear hr
      go_enter Tryd.func75, Tryd.ntmps75
      go_wp2
      go_ret
      exact ⟨rfl, rfl⟩
    · by_cases h3 : (n : Int) - p < size
      · have hr : roomV n p size = 11 := by unfold roomV; rw [if_neg (by omega), if_pos h3]
        rw [hr]; clear hr
        go_enter Tryd.func75, Tryd.ntmps75
        go_wp2
        go_ret
        exact ⟨rfl, rfl⟩
      · have hr : roomV n p size = 0 := by unfold roomV; rw [if_neg (by omega), if_neg h3]
        rw [hr]; clear hr
        go_enter Tryd.func75, Tryd.ntmps75
        go_wp2
        go_ret
        exact ⟨rfl, rfl⟩

end Go.Proofs.YtecjkmemihmkcaaDoor
