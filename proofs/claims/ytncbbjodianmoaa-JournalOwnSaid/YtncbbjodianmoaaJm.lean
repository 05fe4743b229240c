/- The live question ahead of every statement answers true, and changes nothing that was there. Conditions: none. -/
import Derived.Test.YtncbbjodianmoaaJl
import Derived.Test.YtncbbjodianmoaaF
namespace Go.Proofs.Ytncbbjodianmoaa
open Go.RowKit
set_option linter.unusedSimpArgs false
set_option linter.unusedVariables false

theorem right_nil : RightM [] := ⟨by simp, List.Pairwise.nil, by simp [szM]⟩
theorem jhead1 : putM [] [97] [49] = [([97], [49])] ∧ putE [] [97] [49] = 0 := by decide +kernel
theorem jhead2 : delM [([97], [49])] [97] = [] ∧ getM [([97], [49])] [97] = [49] ∧ hasM [([97], [49])] [97] = true := by decide +kernel
theorem jhead3 : ((strOfNums [49]).toList == (ByteArray.mk #[49]).toList) = true := by decide +kernel
theorem jhead4 : strOfNums [49] = ⟨#[49]⟩ := by decide +kernel
/-- a constant string's byte -/
theorem one_marked (w : World) (x : Int) (hx : 0 ≤ x ∧ x < 256) :
    (convert 30 30 (.slice (some ⟨w.heap.size, 0, none⟩) 1 1)).run Try.prog (w.alloc (.cells #[.int .u8 x] 5)) = .ok (.slice (some ⟨w.heap.size, 0, none⟩) 1 1) (w.alloc (.cells #[.int .u8 x] 5 (1, 2))) ∧
    Hid (SB (w.alloc (.cells #[.int .u8 x] 5 (1, 2))) (w.alloc (.cells #[.int .u8 x] 5 (1, 2))).heap.size (.slice (some ⟨w.heap.size, 0, none⟩) 1 1) [x] ∧ Below w.heap.size w (w.alloc (.cells #[.int .u8 x] 5 (1, 2)))) := by
  have m1 := run_marked w #[.int .u8 x] 1 1
  exact ⟨m1, ⟨_, 1, rfl, Nat.le_refl _, by unfold maxLen; omega, (lies_new w [x] 1 (1, 2)).more (by simp), by intro b hb; simp at hb; omega⟩, below_alloc w _⟩
theorem made65 : (madeCells (Value.int .u8 0).cells (65 * 1)).toList = cellsOf (List.replicate 65 0) := by kernel_rfl

set_option maxHeartbeats 3200000 in
theorem headC (w : World) : Calls Try.prog 8 #[] w fun e w' => e = .returned (.bool true) ∧ Below w.heap.size w w' := by
  have K1 : Hid (Calls Try.prog 9 #[.slice none 0 0] w (NewJ w [])) := newC none [] 0 w (Prs.nothing _ _) (Nat.le_refl _) (Nat.zero_le _) (by simp) right_nil
  obtain ⟨i0, hi, hz0, hz1, hz2⟩ := info_parts info5
  go_enter Try.func8, Try.ntmps8
  go_wp2_with fail
  (with_reducible refine K1.out.mono ?_)
  rintro e w1 h
  obtain ⟨J, rfl, hJ, hj, hb1⟩ := h.jr (n0 := w.heap.size) right_nil (Nat.le_refl _)
  clear h
  have HJ := Lib.hid hj
  have HB1 := Lib.hid hb1
  obtain ⟨w2, hrun, ho2, hg2⟩ := run_make_full (P := Try.prog) w1 w1.heap.size 30 5 i0 (.int .u8 0) 1 Try.underlying30 hi hz0 hz1 .i64 .i64 65 (by rw [hz2]; omega) (by unfold maxLen; omega) (Nat.le_refl _)
  have hrun' : (Instr.makeSlice 30 (.int .i64 65) (.int .i64 65)).run Try.prog w1 = .ok (.slice (some ⟨w1.heap.size, 0, none⟩) 65 65) w2 := hrun
  have hb2 : Below w1.heap.size w1 w2 := (Below.refl _ _).grown hg2 (Nat.le_refl _) (fun k hk => by cases hk)
  rw [made65] at ho2
  have hs2 : SB w2 w2.heap.size (.slice (some ⟨w1.heap.size, 0, none⟩) 65 65) (List.replicate 65 0) := by
    obtain ⟨A, c, e, g1, g2, g3⟩ := own_lies ho2
    injection e with e _ e'
    subst e e'
    exact ⟨_, _, by simp, by simp, g2, g3, fun b hb => by have := List.eq_of_mem_replicate hb; omega⟩
  have hp3 := prs_one hs2 (SB.nil w2 w2.heap.size)
  have hb3 := below_alloc w2 (.cells #[.slice (some ⟨w1.heap.size, 0, none⟩) 65 65, .slice none 0 0] 47)
  have K2 : Hid (Calls Try.prog 9 #[.slice (some ⟨w2.heap.size, 0, none⟩) 1 1] (w2.alloc (.cells #[.slice (some ⟨w1.heap.size, 0, none⟩) 65 65, .slice none 0 0] 47)) fun e w' => e = .returned (.pointer none) ∧ Below (w2.alloc (.cells #[.slice (some ⟨w1.heap.size, 0, none⟩) 65 65, .slice none 0 0] 47)).heap.size (w2.alloc (.cells #[.slice (some ⟨w1.heap.size, 0, none⟩) 65 65, .slice none 0 0] 47)) w') :=
    newC_nil _ [(List.replicate 65 0, [])] 1 _ hp3 (Nat.le_refl _) (by unfold maxLen; omega) (by simp) fun hr => by
      have := (hr.1 _ (List.mem_cons_self ..)).1
      simp at this
  have HB2 : Hid (Below w1.heap.size w1 (w2.alloc (.cells #[.slice (some ⟨w1.heap.size, 0, none⟩) 65 65, .slice none 0 0] 47))) := hb2.trans (hb3.mono hb2.size)
  clear hj hb1 K1 hrun ho2 hg2 hb2 hs2 hp3 hb3
  go_wp2_with fail
  (with_reducible refine K2.out.mono ?_)
  rintro e w3 ⟨rfl, hb3⟩
  have hb4 : Below w1.heap.size w1 w3 := HB2.out.trans (hb3.mono HB2.out.size)
  have HJ3 := Lib.hid (HJ.out.on hb4)
  have HB3 := Lib.hid (HB1.out.trans (hb4.mono HB1.out.size))
  clear hb3 hb4 hrun' K2 HB2 HJ HB1
  obtain ⟨m1, m2, HM⟩ := two_marked w3 97 49 (by omega) (by omega)
  have K3 : Hid (Calls Try.prog 12 #[.pointer (some ⟨J, 0, none⟩), .slice (some ⟨w3.heap.size, 0, none⟩) 1 1, .slice (some ⟨w3.heap.size + 1, 0, none⟩) 1 1] _ _) := (putJC w.heap.size _ J [] [] (HJ3.out.on HM.out.2.2) (by simp) _ [97] 1 _ [49] 1 HM.out.1 HM.out.2.1)
  unfold PutJ at K3
  rw [jhead1.1, jhead1.2] at K3
  go_wp2_with fail
  (with_reducible refine K3.out.mono ?_)
  rintro e w4 ⟨rfl, h4, _⟩
  obtain ⟨o4, _, j4⟩ := h4 (by first | rfl | trivial)
  have HO4 := Lib.hid (((Off.of HB3.out).then (HM.out.2.2)).trans o4)
  have HJ4 : Hid (Jr w.heap.size w4 J [[]] [([97], [49])]) := j4
  clear h4 o4 j4 m1 m2 HM K3 HJ3 HB3
  have K4 := Lib.hid (markC _ _ J _ _ HJ4.out)
  go_wp2_with fail
  (with_reducible refine K4.out.mono ?_)
  rintro e w5 ⟨rfl, rfl⟩
  obtain ⟨m1, HM⟩ := one_marked w4 97 (by omega)
  have K5 : Hid (Calls Try.prog 14 #[.pointer (some ⟨J, 0, none⟩), .slice (some ⟨w4.heap.size, 0, none⟩) 1 1] _ _) := (delJC _ _ J _ _ (HJ4.out.on HM.out.2) (by simp) _ [97] 1 HM.out.1)
  rw [jhead2.1] at K5
  clear K4
  go_wp2_with fail
  (with_reducible refine K5.out.mono ?_)
  rintro e w5 ⟨rfl, o5, _, j5⟩
  have HO5 := Lib.hid ((HO4.out.then HM.out.2).trans o5)
  have K6 : Hid (Calls Try.prog 16 #[.pointer (some ⟨J, 0, none⟩), .int .i64 1] _ _) := (undoC _ _ J _ _ j5 1 (by simp) [([97], [49])] rfl)
  clear o5 j5 m1 HM K5 HJ4 HO4
  go_wp2_with fail
  (with_reducible refine K6.out.mono ?_)
  rintro e w6 ⟨rfl, o6, _, j6⟩
  have HO6 := Lib.hid (HO5.out.trans o6)
  have HJ6 := Lib.hid j6
  obtain ⟨m1, HM⟩ := one_marked w6 97 (by omega)
  have K7 : Hid (Calls Try.prog 18 #[.pointer (some ⟨J, 0, none⟩), .slice (some ⟨w6.heap.size, 0, none⟩) 1 1] _ _) := (jgetC _ _ J _ _ (HJ6.out.on HM.out.2) _ [97] 1 HM.out.1)
  rw [jhead2.2.1, jhead2.2.2] at K7
  clear o6 j6 K6 HO5
  go_wp2_with fail
  (with_reducible refine K7.out.mono ?_)
  rintro e w7 ⟨V, rfl, hv, hy, hb7⟩
  have HO7 := Lib.hid ((HO6.out.then HM.out.2).then hb7)
  have K8 := Lib.hid (pairsC _ _ J _ _ ((HJ6.out.on HM.out.2).on hb7))
  have hs := own_SB hv hy
  have d1 := hs.str
  rw [jhead4] at d1
  obtain ⟨Av, cv, rfl, _⟩ := hs
  simp only [List.length_cons, List.length_nil, Nat.zero_add] at d1
  clear hv hy hb7 m1 K7 HJ6 HO6 HM
  go_wp2_with fail
  (with_reducible refine K8.out.mono ?_)
  rintro e w8 ⟨A8, c8, vs8, rfl, _, _, _, _, hb8⟩
  have HB8 := Lib.hid ((HO7.out.then hb8).below (Nat.le_refl _))
  clear hb8 d1
  go_wp2
  go_ret
  exact ⟨rfl, HB8.out⟩
end Go.Proofs.Ytncbbjodianmoaa
