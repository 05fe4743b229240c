/- What a sign makes of two types; ahead of what it stands. Conditions: those in each theorem. -/
import Derived.Test.YtilmidjkjgeoeaaDoorVH
namespace Go.Proofs.YtilmidjkjgeoeaaDoor
open Go.RowKit Go.MapKept
set_option maxRecDepth 100000
set_option linter.unusedVariables false
set_option linter.unusedSimpArgs false
/-- a sign's text by its number -/
theorem sign_cases (n : Int) : (n = 1 ∧ strOfNums (signM n) = ⟨#[43]⟩) ∨ (n = 2 ∧ strOfNums (signM n) = ⟨#[45]⟩) ∨ (n = 3 ∧ strOfNums (signM n) = ⟨#[42]⟩) ∨ (n = 4 ∧ strOfNums (signM n) = ⟨#[47]⟩) ∨ (n = 5 ∧ strOfNums (signM n) = ⟨#[37]⟩) ∨ (n = 6 ∧ strOfNums (signM n) = ⟨#[60]⟩) ∨ (n = 7 ∧ strOfNums (signM n) = ⟨#[60, 61]⟩) ∨ (n = 8 ∧ strOfNums (signM n) = ⟨#[62]⟩) ∨ (n = 9 ∧ strOfNums (signM n) = ⟨#[62, 61]⟩) ∨ (n = 10 ∧ strOfNums (signM n) = ⟨#[61, 61]⟩) ∨ (n = 11 ∧ strOfNums (signM n) = ⟨#[33, 61]⟩) ∨ (n = 12 ∧ strOfNums (signM n) = ⟨#[33]⟩) ∨ ((n < 1 ∨ 12 < n) ∧ strOfNums (signM n) = ⟨#[]⟩) := by
  by_cases h : 1 ≤ n ∧ n ≤ 12
  · have : n = 1 ∨ n = 2 ∨ n = 3 ∨ n = 4 ∨ n = 5 ∨ n = 6 ∨ n = 7 ∨ n = 8 ∨ n = 9 ∨ n = 10 ∨ n = 11 ∨ n = 12 := by omega
    rcases this with rfl | rfl | rfl | rfl | rfl | rfl | rfl | rfl | rfl | rfl | rfl | rfl
    · exact .inl ⟨rfl, rfl⟩
    · exact .inr (.inl ⟨rfl, rfl⟩)
    · exact .inr (.inr (.inl ⟨rfl, rfl⟩))
    · exact .inr (.inr (.inr (.inl ⟨rfl, rfl⟩)))
    · exact .inr (.inr (.inr (.inr (.inl ⟨rfl, rfl⟩))))
    · exact .inr (.inr (.inr (.inr (.inr (.inl ⟨rfl, rfl⟩)))))
    · exact .inr (.inr (.inr (.inr (.inr (.inr (.inl ⟨rfl, rfl⟩))))))
    · exact .inr (.inr (.inr (.inr (.inr (.inr (.inr (.inl ⟨rfl, rfl⟩)))))))
    · exact .inr (.inr (.inr (.inr (.inr (.inr (.inr (.inr (.inl ⟨rfl, rfl⟩))))))))
    · exact .inr (.inr (.inr (.inr (.inr (.inr (.inr (.inr (.inr (.inl ⟨rfl, rfl⟩)))))))))
    · exact .inr (.inr (.inr (.inr (.inr (.inr (.inr (.inr (.inr (.inr (.inl ⟨rfl, rfl⟩))))))))))
    · exact .inr (.inr (.inr (.inr (.inr (.inr (.inr (.inr (.inr (.inr (.inr (.inl ⟨rfl, rfl⟩)))))))))))
  · have e : signM n = [] := by unfold signM; rw [if_neg h]
    refine .inr (.inr (.inr (.inr (.inr (.inr (.inr (.inr (.inr (.inr (.inr (.inr ⟨by omega, by rw [e]; rfl⟩)))))))))))
def OkN (n : Int) : Prop := n = 0 ∨ okTy n
def MadeOf (n a b : Int) (w : World) (r : Ending) (w' : World) : Prop := r = .returned (.int .i64 (madeV n a b)) ∧ w = w'
set_option maxHeartbeats 1600000 in
theorem madeC (n a b : Int) (w : World) (ha : OkN a) (hb : OkN b) : Calls Tryd.prog 39 #[.string (strOfNums (signM n)), .int .i64 a, .int .i64 b] w (MadeOf n a b w) := by
  by_cases hab : a = b
  · subst hab
    have h4 : a = 0 ∨ a = 1 ∨ a = 2 ∨ a = 3 := by
      rcases ha with ha | ⟨h1, h2⟩ <;> omega
    rcases sign_cases n with ⟨rfl, e⟩ | ⟨rfl, e⟩ | ⟨rfl, e⟩ | ⟨rfl, e⟩ | ⟨rfl, e⟩ | ⟨rfl, e⟩ | ⟨rfl, e⟩ | ⟨rfl, e⟩ | ⟨rfl, e⟩ | ⟨rfl, e⟩ | ⟨rfl, e⟩ | ⟨rfl, e⟩ | ⟨hn, e⟩
    case inr.inr.inr.inr.inr.inr.inr.inr.inr.inr.inr.inr =>
      rw [e]
      have hm : madeV n a a = 0 := by
        unfold madeV
        rw [if_neg (by omega), if_neg (by omega), if_neg (by omega), if_neg (by omega)]
      have HM := Lib.hid hm
      clear e hm hn
      rcases h4 with rfl | rfl | rfl | rfl
      all_goals
        clear ha hb
        go_enter Tryd.func39, Tryd.ntmps39
        go_wp2
        go_ret
        exact ⟨by rw [HM.out]; rfl, rfl⟩
    all_goals
      rw [e]
      clear e
      rcases h4 with rfl | rfl | rfl | rfl
      all_goals
        clear ha hb
        go_enter Tryd.func39, Tryd.ntmps39
        go_wp2
        go_ret
        exact ⟨rfl, rfl⟩
  · have hm : madeV n a b = 0 := by
      unfold madeV
      split
      · rw [if_neg (by omega), if_neg (by omega)]
      · split
        · rw [if_neg (by omega)]
        · split
          · rw [if_neg (by omega)]
          · split
            · rw [if_neg (by omega)]
            · rfl
    have HM := Lib.hid hm
    clear hm ha hb
    generalize strOfNums (signM n) = s
    go_enter Tryd.func39, Tryd.ntmps39
    go_wp2
    go_ret
    exact ⟨by rw [HM.out]; rfl, rfl⟩
def opdV (n : Int) : Int := if n = 2 then 1 else if n = 12 then 2 else 0
theorem operandC (n : Int) (w : World) : Calls Tryd.prog 41 #[.string (strOfNums (signM n))] w fun r w' => r = .returned (.int .i64 (opdV n)) ∧ w = w' := by
  rcases sign_cases n with ⟨rfl, e⟩ | ⟨rfl, e⟩ | ⟨rfl, e⟩ | ⟨rfl, e⟩ | ⟨rfl, e⟩ | ⟨rfl, e⟩ | ⟨rfl, e⟩ | ⟨rfl, e⟩ | ⟨rfl, e⟩ | ⟨rfl, e⟩ | ⟨rfl, e⟩ | ⟨rfl, e⟩ | ⟨hn, e⟩
  case inr.inr.inr.inr.inr.inr.inr.inr.inr.inr.inr.inr =>
    rw [e]
    have hm : opdV n = 0 := by unfold opdV; rw [if_neg (by omega), if_neg (by omega)]
    have HM := Lib.hid hm
    clear e hm hn
    go_enter Tryd.func41, Tryd.ntmps41
    go_wp2
    go_ret
    exact ⟨by rw [HM.out]; rfl, rfl⟩
  all_goals
    rw [e]
    clear e
    go_enter Tryd.func41, Tryd.ntmps41
    go_wp2
    go_ret
    exact ⟨rfl, rfl⟩
end Go.Proofs.YtilmidjkjgeoeaaDoor
