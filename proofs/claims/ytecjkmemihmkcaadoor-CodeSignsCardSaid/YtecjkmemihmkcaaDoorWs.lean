/- The walk of CodeSigns: it returns true, and nothing that was there has changed. Conditions: none beyond what its arguments are; the table of signs lies as the program lays it. -/
import Derived.Test.YtecjkmemihmkcaaDoorZo
namespace Go.Proofs.YtecjkmemihmkcaaDoor
set_option maxRecDepth 100000
open Go.RowKit
set_option linter.unusedSimpArgs false
set_option linter.unusedVariables false

theorem sign_byt (n : Int) : Byt (signM n) := by
  unfold signM
  split
  · generalize (n - 1).toNat = k
    by_cases h : k < signsL.length
    · have : signsL.getD k [] = signsL[k] := by simp [List.getD, h]
      rw [this]
      exact signs_byt _ (List.getElem_mem _)
    · have : signsL.getD k [] = [] := by simp [List.getD, Nat.not_lt.1 h]
      rw [this]
      exact Byt.nil
  · exact Byt.nil
theorem sign_in {n : Int} (h : 1 ≤ n ∧ n ≤ 12) : signM n ≠ [] ∧ numberM (signM n) = n := by
  obtain ⟨k, rfl⟩ : ∃ k : Nat, n = (k : Int) + 1 := ⟨(n - 1).toNat, by omega⟩
  have : k = 0 ∨ k = 1 ∨ k = 2 ∨ k = 3 ∨ k = 4 ∨ k = 5 ∨ k = 6 ∨ k = 7 ∨ k = 8 ∨ k = 9 ∨ k = 10 ∨ k = 11 := by omega
  rcases this with rfl | rfl | rfl | rfl | rfl | rfl | rfl | rfl | rfl | rfl | rfl | rfl <;> exact ⟨by decide, by decide⟩
theorem sign_out {n : Int} (h : ¬ (1 ≤ n ∧ n ≤ 12)) : signM n = [] := if_neg h
theorem sign_one_one {a b : Int} (ha : signM a ≠ []) (h : signM a = signM b) : a = b := by
  by_cases h1 : 1 ≤ a ∧ a ≤ 12
  · by_cases h2 : 1 ≤ b ∧ b ≤ 12
    · rw [← (sign_in h1).2, ← (sign_in h2).2, h]
    · rw [sign_out h2] at h
      exact absurd h ha
  · exact absurd (sign_out h1) ha

set_option maxHeartbeats 1600000 in
theorem signs_walk (a b : Int) (w : World) (a1 : -9223372036854775808 ≤ a) (a2 : a ≤ 9223372036854775807) (b1 : -9223372036854775808 ≤ b) (b2 : b ≤ 9223372036854775807) (ht : Tab w) :
    Calls Tryd.prog 6 #[.int .i64 a, .int .i64 b] w (Says true w) := by
  have HT := Lib.hid ht
  have h0 := ht.1
  have K := Lib.hid (head_true w ht)
  have HA := Lib.hid (sign_byt a)
  have h00 : (strOfNums (signM a)).toList = [] ↔ signM a = [] := by
    rw [Lib.strOfNums_toList]
    simp [Lib.bytesOf]
  have h11 : ((strOfNums (signM a)).toList == (strOfNums (signM b)).toList) = decide (signM a = signM b) := str_eq (sign_byt a) (sign_byt b)
  have HI : Hid (1 ≤ a ∧ a ≤ 12 → signM a ≠ [] ∧ numberM (signM a) = a) := sign_in
  have HO : Hid (¬ (1 ≤ a ∧ a ≤ 12) → signM a = []) := sign_out
  have H1 : Hid (signM a ≠ [] → signM a = signM b → a = b) := sign_one_one
  have KA : Hid (∀ w', Tab w' → Calls Tryd.prog 19 #[.int .i64 a] w' fun e w'' => e = .returned (.string (strOfNums (signM a))) ∧ w' = w'') := fun w' h => sign a w' a1 a2 h
  have KB : Hid (∀ w', Tab w' → Calls Tryd.prog 19 #[.int .i64 b] w' fun e w'' => e = .returned (.string (strOfNums (signM b))) ∧ w' = w'') := fun w' h => sign b w' b1 b2 h
  have KN : Hid (∀ w', Tab w' → Calls Tryd.prog 21 #[.string (strOfNums (signM a))] w' fun e w'' => e = .returned (.int .i64 (numberM (signM a))) ∧ w' = w'') := fun w' h => number _ w' HA.out h
  clear ht
  generalize hN : numberM (signM a) = N at *
  clear hN
  generalize strOfNums (signM a) = sa at *
  generalize strOfNums (signM b) = sb at *
  by_cases hin : 1 ≤ a ∧ a ≤ 12
  · obtain ⟨hne, rfl⟩ := HI.out hin
    have hz : ¬ sa.toList = [] := fun h => hne (h00.1 h)
    have hz2 : sa.toList.isEmpty = false := by simpa using hz
    have hz3 : (sa.toList == []) = false := by simpa using hz
    clear h00
    obtain ⟨i1, i2⟩ := hin
    by_cases heq : signM N = signM b
    · obtain rfl := H1.out hne heq
      rw [decide_eq_true rfl] at h11
      have hq : sa.toList = sb.toList := by simpa using h11
      have hz4 : ¬ sb.toList = [] := by rw [← hq]; exact hz
      have hz5 : sb.toList.isEmpty = false := by rw [← hq]; exact hz2
      have hz6 : (sb.toList == []) = false := by rw [← hq]; exact hz3
      clear hne heq
      go_enter Tryd.func6, Tryd.ntmps6
      go_wp2_with fail
      refine K.out.mono ?_
      rintro e w1 ⟨rfl, hb1⟩
      have HB := Lib.hid hb1
      have HT1 := Lib.hid (HT.out.below hb1 h0)
      clear hb1 K
      go_wp2_with fail
      refine (KA.out _ HT1.out).mono ?_
      rintro e w2 ⟨rfl, rfl⟩
      go_wp2_with fail
      refine (KB.out _ HT1.out).mono ?_
      rintro e w2 ⟨rfl, rfl⟩
      go_wp2_with fail
      refine (KN.out _ HT1.out).mono ?_
      rintro e w2 ⟨rfl, rfl⟩
      go_wp2
      all_goals first | (go_ret; refine ⟨?_, HB.out⟩; first | rfl | (refine congrArg Ending.returned (congrArg Value.bool ?_); simp [*]; done)) | exact absurd (by assumption) hz
    · rw [decide_eq_false heq] at h11
      have hq : ¬ sa.toList = sb.toList := by simpa using h11
      clear hne heq
      go_enter Tryd.func6, Tryd.ntmps6
      go_wp2_with fail
      refine K.out.mono ?_
      rintro e w1 ⟨rfl, hb1⟩
      have HB := Lib.hid hb1
      have HT1 := Lib.hid (HT.out.below hb1 h0)
      clear hb1 K
      go_wp2_with fail
      refine (KA.out _ HT1.out).mono ?_
      rintro e w2 ⟨rfl, rfl⟩
      go_wp2_with fail
      refine (KB.out _ HT1.out).mono ?_
      rintro e w2 ⟨rfl, rfl⟩
      go_wp2_with fail
      refine (KN.out _ HT1.out).mono ?_
      rintro e w2 ⟨rfl, rfl⟩
      go_wp2
      all_goals first | (go_ret; refine ⟨?_, HB.out⟩; first | rfl | (refine congrArg Ending.returned (congrArg Value.bool ?_); simp [*]; done)) | exact absurd (by assumption) hz
  · have hem := HO.out hin
    have hz : sa.toList = [] := h00.2 hem
    clear h00
    have hcmp : (decide (1 ≤ a) && decide (a ≤ 12)) = false := by
      rw [← Bool.not_eq_true]
      simp only [Bool.and_eq_true, decide_eq_true_eq]
      exact hin
    clear hem
    by_cases h1 : 1 ≤ a
    · have h2 : 12 < a := by omega
      go_enter Tryd.func6, Tryd.ntmps6
      go_wp2_with fail
      refine K.out.mono ?_
      rintro e w1 ⟨rfl, hb1⟩
      have HB := Lib.hid hb1
      have HT1 := Lib.hid (HT.out.below hb1 h0)
      clear hb1 K
      go_wp2_with fail
      refine (KA.out _ HT1.out).mono ?_
      rintro e w2 ⟨rfl, rfl⟩
      go_wp2_with fail
      refine (KB.out _ HT1.out).mono ?_
      rintro e w2 ⟨rfl, rfl⟩
      go_wp2
      all_goals first | (go_ret; refine ⟨?_, HB.out⟩; first | rfl | (refine congrArg Ending.returned (congrArg Value.bool ?_); simp [*]; done)) | exact absurd (by assumption) hz
    · have h2 : a < 1 := by omega
      go_enter Tryd.func6, Tryd.ntmps6
      go_wp2_with fail
      refine K.out.mono ?_
      rintro e w1 ⟨rfl, hb1⟩
      have HB := Lib.hid hb1
      have HT1 := Lib.hid (HT.out.below hb1 h0)
      clear hb1 K
      go_wp2_with fail
      refine (KA.out _ HT1.out).mono ?_
      rintro e w2 ⟨rfl, rfl⟩
      go_wp2_with fail
      refine (KB.out _ HT1.out).mono ?_
      rintro e w2 ⟨rfl, rfl⟩
      go_wp2
      all_goals first | (go_ret; refine ⟨?_, HB.out⟩; first | rfl | (refine congrArg Ending.returned (congrArg Value.bool ?_); simp [*]; done)) | exact absurd (by assumption) hz

end Go.Proofs.YtecjkmemihmkcaaDoor
