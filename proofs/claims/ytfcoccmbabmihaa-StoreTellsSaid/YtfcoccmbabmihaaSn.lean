/- The live question ahead of every statement answers true, and changes nothing that was there. Conditions: none. -/
import Derived.Test.YtfcoccmbabmihaaSl
namespace Go.Proofs.Ytfcoccmbabmihaa
open Go.RowKit
set_option linter.unusedSimpArgs false
set_option linter.unusedVariables false

theorem right_sml {l : List PR} (h : RightM l) : Sml l ∧ l.length ≤ 256 := by
  have h1 := szM_len l
  have h2 := h.2.2
  refine ⟨⟨by omega, fun p hp => ?_⟩, by omega⟩
  have := h.1 p hp
  omega

theorem head1 : putR [] [98] [50] = [([98], [50])] ∧ putE [] [98] [50] = 0 := by decide +kernel
theorem head2 : putR [([98], [50])] [97] [49] = [([97], [49]), ([98], [50])] ∧ putE [([98], [50])] [97] [49] = 0 := by decide +kernel
theorem head3 : getM [([97], [49]), ([98], [50])] [98] = [50] ∧ hasM [([97], [49]), ([98], [50])] [98] = true ∧ szM [([97], [49]), ([98], [50])] = 20 := by decide +kernel
theorem head4 : decide (RightM [([97], [49]), ([98], [50])]) = true := by decide +kernel
theorem head5 : strOfNums [97] = ⟨#[97]⟩ ∧ strOfNums [50] = ⟨#[50]⟩ := by decide +kernel

/-- two constant strings' bytes, laid one behind the other -/
theorem two_marked (w : World) (x y : Int) (hx : 0 ≤ x ∧ x < 256) (hy : 0 ≤ y ∧ y < 256) :
    (convert 23 23 (.slice (some ⟨w.heap.size, 0, none⟩) 1 1)).run Try.prog (w.alloc (.cells #[.int .u8 x] 5)) = .ok (.slice (some ⟨w.heap.size, 0, none⟩) 1 1) (w.alloc (.cells #[.int .u8 x] 5 (1, 2))) ∧
    (convert 23 23 (.slice (some ⟨w.heap.size + 1, 0, none⟩) 1 1)).run Try.prog ((w.alloc (.cells #[.int .u8 x] 5 (1, 2))).alloc (.cells #[.int .u8 y] 5)) = .ok (.slice (some ⟨w.heap.size + 1, 0, none⟩) 1 1) ((w.alloc (.cells #[.int .u8 x] 5 (1, 2))).alloc (.cells #[.int .u8 y] 5 (1, 2))) ∧
    Hid (SB ((w.alloc (.cells #[.int .u8 x] 5 (1, 2))).alloc (.cells #[.int .u8 y] 5 (1, 2))) ((w.alloc (.cells #[.int .u8 x] 5 (1, 2))).alloc (.cells #[.int .u8 y] 5 (1, 2))).heap.size (.slice (some ⟨w.heap.size, 0, none⟩) 1 1) [x] ∧
      SB ((w.alloc (.cells #[.int .u8 x] 5 (1, 2))).alloc (.cells #[.int .u8 y] 5 (1, 2))) ((w.alloc (.cells #[.int .u8 x] 5 (1, 2))).alloc (.cells #[.int .u8 y] 5 (1, 2))).heap.size (.slice (some ⟨w.heap.size + 1, 0, none⟩) 1 1) [y] ∧
      Below w.heap.size w ((w.alloc (.cells #[.int .u8 x] 5 (1, 2))).alloc (.cells #[.int .u8 y] 5 (1, 2)))) := by
  have m1 := run_marked w #[.int .u8 x] 1 1
  have m2 := run_marked (w.alloc (.cells #[.int .u8 x] 5 (1, 2))) #[.int .u8 y] 1 1
  simp only [World.size_alloc] at m2
  have b1 := below_alloc w (.cells #[.int .u8 x] 5 (1, 2))
  have b2 := below_alloc (w.alloc (.cells #[.int .u8 x] 5 (1, 2))) (.cells #[.int .u8 y] 5 (1, 2))
  have s1 : SB (w.alloc (.cells #[.int .u8 x] 5 (1, 2))) (w.alloc (.cells #[.int .u8 x] 5 (1, 2))).heap.size (.slice (some ⟨w.heap.size, 0, none⟩) 1 1) [x] :=
    ⟨_, 1, rfl, Nat.le_refl _, by unfold maxLen; omega, (lies_new w [x] 1 (1, 2)).more (by simp), by intro b hb; simp at hb; omega⟩
  have s2 : SB ((w.alloc (.cells #[.int .u8 x] 5 (1, 2))).alloc (.cells #[.int .u8 y] 5 (1, 2))) ((w.alloc (.cells #[.int .u8 x] 5 (1, 2))).alloc (.cells #[.int .u8 y] 5 (1, 2))).heap.size (.slice (some ⟨w.heap.size + 1, 0, none⟩) 1 1) [y] := by
    have := lies_new (w.alloc (.cells #[.int .u8 x] 5 (1, 2))) [y] 1 (1, 2)
    simp only [World.size_alloc] at this
    exact ⟨_, 1, rfl, Nat.le_refl _, by unfold maxLen; omega, this.more (by simp), by intro b hb; simp at hb; omega⟩
  exact ⟨m1, m2, s1.on b2, s2, b1.trans (b2.mono b1.size)⟩

set_option maxHeartbeats 1600000 in
theorem headC (w : World) : Calls Try.prog 8 #[] w fun e w' => e = .returned (.bool true) ∧ Below w.heap.size w w' := by
  obtain ⟨m1, m2, HM⟩ := two_marked w 98 50 (by omega) (by omega)
  have K1 : Hid (Calls Try.prog 12 #[.slice none 0 0, .slice (some ⟨w.heap.size, 0, none⟩) 1 1, .slice (some ⟨w.heap.size + 1, 0, none⟩) 1 1] _ _) := putC none [] 0 _ [98] 1 _ [50] 1 _ (Prs.nothing _ _) (Nat.le_refl _) (Nat.zero_le _) HM.out.1 HM.out.2.1 ⟨by simp, by simp⟩ (by simp)
  rw [head1.1, head1.2] at K1
  go_enter Try.func8, Try.ntmps8
  go_wp2_with fail
  (with_reducible refine K1.out.mono ?_)
  rintro e w1 ⟨A1, c1, rfl, g1, g2, g3, hb1⟩
  have HB1 := Lib.hid (HM.out.2.2.trans (hb1.mono HM.out.2.2.size))
  have HP1 : Hid (1 ≤ c1 ∧ c1 ≤ maxLen ∧ Prs w1 w1.heap.size A1 c1 [([98], [50])]) := ⟨g1, g2, g3⟩
  clear hb1 g1 g2 g3 m1 m2 HM K1
  obtain ⟨m1, m2, HM⟩ := two_marked w1 97 49 (by omega) (by omega)
  have K1 : Hid (Calls Try.prog 12 #[.slice A1 1 c1, .slice (some ⟨w1.heap.size, 0, none⟩) 1 1, .slice (some ⟨w1.heap.size + 1, 0, none⟩) 1 1] _ _) := putC A1 [([98], [50])] c1 _ [97] 1 _ [49] 1 _ (HP1.out.2.2.on HM.out.2.2) HP1.out.1 HP1.out.2.1 HM.out.1 HM.out.2.1 ⟨by simp, by simp⟩ (by simp)
  rw [head2.1, head2.2] at K1
  go_wp2_with fail
  (with_reducible refine K1.out.mono ?_)
  rintro e w2 ⟨A2, c2, rfl, g1, g2, g3, hb2⟩
  have HB2 := Lib.hid ((HB1.out.trans (HM.out.2.2.mono HB1.out.size)).trans (hb2.mono (Nat.le_trans HB1.out.size HM.out.2.2.size)))
  have HP2 : Hid (2 ≤ c2 ∧ c2 ≤ maxLen ∧ Prs w2 w2.heap.size A2 c2 [([97], [49]), ([98], [50])]) := ⟨g1, g2, g3⟩
  clear hb2 g1 g2 g3 m1 m2 HM K1 HP1
  have m1 := run_marked w2 #[.int .u8 98] 1 1
  simp only [List.size_toArray, List.length_cons, List.length_nil] at m1
  have b1 := Lib.hid (below_alloc w2 (.cells #[.int .u8 98] 5 (1, 2)))
  have s1 : SB (w2.alloc (.cells #[.int .u8 98] 5 (1, 2))) (w2.alloc (.cells #[.int .u8 98] 5 (1, 2))).heap.size (.slice (some ⟨w2.heap.size, 0, none⟩) 1 1) [98] :=
    ⟨_, 1, rfl, Nat.le_refl _, by unfold maxLen; omega, (lies_new w2 [98] 1 (1, 2)).more (by simp), by intro b hb; simp at hb; omega⟩
  have K1 : Hid (Calls Try.prog 10 #[.slice A2 2 c2, .slice (some ⟨w2.heap.size, 0, none⟩) 1 1] _ _) := getC A2 [([97], [49]), ([98], [50])] c2 _ [98] 1 _ (HP2.out.2.2.on b1.out) HP2.out.1 HP2.out.2.1 s1 ⟨by simp, by simp⟩
  rw [head3.1, head3.2.1] at K1
  clear s1
  go_wp2_with fail
  (with_reducible refine K1.out.mono ?_)
  rintro e w3 ⟨V, rfl, ho, hy, hb3⟩
  have HB3 := Lib.hid ((HB2.out.trans (b1.out.mono HB2.out.size)).trans (hb3.mono (Nat.le_trans HB2.out.size b1.out.size)))
  have hP3 := (HP2.out.2.2.on b1.out).on hb3
  have HP3 := Lib.hid hP3
  have hSv := own_SB ho hy
  obtain ⟨b, o, Au, cu, Av, cv, hA, c1, c2', s1, s2, _⟩ := hP3.at (i := 0) rfl
  obtain ⟨Aw, cw, hV, _⟩ := id hSv
  subst hA hV
  have d1 := s1.str
  have d2 := hSv.str
  rw [head5.1] at d1
  rw [head5.2] at d2
  simp only [Nat.zero_mul, Nat.add_zero, List.length_cons, List.length_nil, Nat.zero_add] at c1 d1 d2
  have h2 := HP2.out.1
  have K4 : Hid (Calls Try.prog 21 #[.slice (some ⟨b, o, none⟩) 2 c2] _ _) := sizeC _ [([97], [49]), ([98], [50])] c2 w3 HP3.out HP2.out.1 HP2.out.2.1 (by rw [head3.2.2]; omega)
  rw [head3.2.2] at K4
  have K5 : Hid (∀ w4, Below w3.heap.size w3 w4 → Calls Try.prog 23 #[.slice (some ⟨b, o, none⟩) 2 c2] w4 fun e w' => e = .returned (.bool (decide (RightM [([97], [49]), ([98], [50])]))) ∧ Below w4.heap.size w4 w') := fun w4 hb => rightC _ [([97], [49]), ([98], [50])] c2 w4 (HP3.out.on hb) HP2.out.1 HP2.out.2.1 (by simp)
  rw [head4] at K5
  clear ho hy hb3 hP3 hSv s1 s2 m1 K1 c2'
  go_wp2_with fail
  (with_reducible refine K4.out.mono ?_)
  rintro e w4 ⟨rfl, hb4⟩
  have HB4 := Lib.hid (HB3.out.trans (hb4.mono HB3.out.size))
  have K5 := Lib.hid (K5.out w4 hb4)
  clear hb4 d1 d2 c1
  go_wp2_with fail
  (with_reducible refine K5.out.mono ?_)
  rintro e w5 ⟨rfl, hb5⟩
  have HB5 := Lib.hid (HB4.out.trans (hb5.mono HB4.out.size))
  clear hb5
  go_wp2
  go_ret
  exact ⟨rfl, HB5.out⟩
end Go.Proofs.Ytfcoccmbabmihaa
