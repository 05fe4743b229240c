/- The walk of StoreOrder. Conditions: what is read lies in memory; a row is not longer than memory. -/
import Derived.Test.YtfcoccmbabmihaaSn
namespace Go.Proofs.Ytfcoccmbabmihaa
open Go.RowKit
set_option linter.unusedSimpArgs false
set_option linter.unusedVariables false

theorem putR_0 {l : List PR} {k v : List Int} (h : putE l k v = 0) : putR l k v = putM l k v := if_pos h

set_option maxHeartbeats 3200000 in
theorem order_walk (A0 A1 A2 A3 A4 : Option Addr) (l : List PR) (a b x y : List Int) (c0 c1 c2 c3 c4 : Nat) (w : World) (h0 : l.length ≤ c0) (hm : c0 ≤ maxLen) (hl : l.length ≤ 2932031007402) (hp : Prs w w.heap.size A0 c0 l)
    (sa : SB w w.heap.size (.slice A1 a.length c1) a) (sb : SB w w.heap.size (.slice A2 b.length c2) b) (sx : SB w w.heap.size (.slice A3 x.length c3) x) (sy : SB w w.heap.size (.slice A4 y.length c4) y) :
    Calls Try.prog 6 #[.slice A0 l.length c0, .slice A1 a.length c1, .slice A2 b.length c2, .slice A3 x.length c3, .slice A4 y.length c4] w fun e w' => e = .returned (.bool true) ∧ Below w.heap.size w w' := by
  have HP := Lib.hid hp
  have HA := Lib.hid sa
  have HB := Lib.hid sb
  have HX := Lib.hid sx
  have HY := Lib.hid sy
  have hm' := hm
  clear hp sa sb sx sy
  unfold maxLen at hm
  go_enter Try.func6, Try.ntmps6
  go_wp2_with fail
  refine (headC _).mono ?_
  rintro e w1 ⟨rfl, hb⟩
  have B1 := Lib.hid hb
  have K := Lib.hid (rightC A0 l c0 w1 (HP.out.on hb) h0 hm' hl)
  clear hb
  by_cases hr : RightM l
  · have hd : decide (RightM l) = true := by simpa using hr
    rw [hd] at K
    have HR := Lib.hid hr
    obtain ⟨hs, hl2⟩ := right_sml hr
    have HS := Lib.hid hs
    clear hd hr hs
    go_wp2_with fail
    (with_reducible refine K.out.mono ?_)
    rintro e w2 ⟨rfl, hb⟩
    have B2 := Lib.hid (B1.out.trans (hb.mono B1.out.size))
    clear hb K
    have d1 := (HA.out.on B2.out).str
    have d2 := (HB.out.on B2.out).str
    have hse := str_eq HA.out.byt HB.out.byt
    by_cases hab : a = b
    · have he : ((strOfNums a).toList == (strOfNums b).toList) = true := by rw [hse]; simpa using hab
      clear hse hab
      generalize strOfNums a = s at *
      generalize strOfNums b = t at *
      go_wp2
      go_ret
      exact ⟨rfl, B2.out⟩
    · have he : ((strOfNums a).toList == (strOfNums b).toList) = false := by rw [hse]; simpa using hab
      have HAB := Lib.hid hab
      clear hse hab
      have K1 := Lib.hid (putC A0 l c0 A1 a c1 A3 x c3 w2 (HP.out.on B2.out) h0 hm' (HA.out.on B2.out) (HX.out.on B2.out) HS.out (by omega))
      generalize strOfNums a = s at *
      generalize strOfNums b = t at *
      go_wp2_with fail
      (with_reducible refine K1.out.mono ?_)
      clear K1 d1 d2 he
      rintro e w3 ⟨A5, c5, rfl, g1, g2, g3, hb⟩
      have B3 := Lib.hid (B2.out.trans (hb.mono B2.out.size))
      have P3 : Hid ((putR l a x).length ≤ c5 ∧ c5 ≤ maxLen ∧ Prs w3 w3.heap.size A5 c5 (putR l a x)) := ⟨g1, g2, g3⟩
      clear hb g1 g2 g3
      have K1 := Lib.hid (putC A0 l c0 A2 b c2 A4 y c4 w3 (HP.out.on B3.out) h0 hm' (HB.out.on B3.out) (HY.out.on B3.out) HS.out (by omega))
      go_wp2_with fail
      (with_reducible refine K1.out.mono ?_)
      clear K1
      rintro e w4 ⟨A6, c6, rfl, g1, g2, g3, hb⟩
      have B4 := Lib.hid (B3.out.trans (hb.mono B3.out.size))
      have P4 : Hid ((putR l b y).length ≤ c6 ∧ c6 ≤ maxLen ∧ Prs w4 w4.heap.size A6 c6 (putR l b y) ∧ Prs w4 w4.heap.size A5 c5 (putR l a x)) := ⟨g1, g2, g3, P3.out.2.2.on hb⟩
      clear hb g1 g2 g3
      by_cases h1 : putE l a x = 0
      · by_cases h2 : putE l b y = 0
        · have hm1 := right_putM HR.out h1
          have hm2 := right_putM HR.out h2
          obtain ⟨o1, o2⟩ := order_plain HR.out HAB.out h1 h2
          obtain ⟨q1, q1'⟩ := right_sml hm1
          obtain ⟨q2, q2'⟩ := right_sml hm2
          rw [putR_0 h1, putR_0 h2] at P4
          rw [putR_0 h1] at P3
          rw [putR_0 h1, putR_0 h2, h1, h2]
          have hE : putR (putM l a x) b y = putR (putM l b y) a x := by unfold putR; rw [o1, o2]
          have K1 := Lib.hid (putC A5 (putM l a x) c5 A2 b c2 A4 y c4 w4 P4.out.2.2.2 P3.out.1 P3.out.2.1 (HB.out.on B4.out) (HY.out.on B4.out) q1 (by omega))
          have K2 : Hid (∀ w5, Below w4.heap.size w4 w5 → Calls Try.prog 12 #[.slice A6 (putM l b y).length c6, .slice A1 a.length c1, .slice A3 x.length c3] w5 (PutOk w5 (putR (putM l a x) b y) (putE (putM l a x) b y))) := fun w5 hb => by
            rw [hE, o2]
            have B5 := B4.out.trans (hb.mono B4.out.size)
            exact putC A6 (putM l b y) c6 A1 a c1 A3 x c3 w5 (P4.out.2.2.1.on hb) P4.out.1 P4.out.2.1 (HA.out.on B5) (HX.out.on B5) q2 (by omega)
          clear hm1 hm2 o1 o2 q1 q1' q2 q2' h1 h2 hE P3 P4
          generalize putR (putM l a x) b y = ms at *
          generalize putE (putM l a x) b y = E at *
          generalize putM l a x = l1 at *
          generalize putM l b y = l2 at *
          go_wp2_with fail
          (with_reducible refine K1.out.mono ?_)
          clear K1
          rintro e w5 ⟨A7, c7, rfl, g1, g2, g3, hb⟩
          have B5 := Lib.hid (B4.out.trans (hb.mono B4.out.size))
          have P5 : Hid (ms.length ≤ c7 ∧ c7 ≤ maxLen ∧ Prs w5 w5.heap.size A7 c7 ms) := ⟨g1, g2, g3⟩
          have K2 := Lib.hid (K2.out w5 hb)
          clear hb g1 g2 g3
          go_wp2_with fail
          (with_reducible refine K2.out.mono ?_)
          clear K2
          rintro e w6 ⟨A8, c8, rfl, g1, g2, g3, hb⟩
          have B6 := Lib.hid (B5.out.trans (hb.mono B5.out.size))
          have K := Lib.hid (sameC A7 ms c7 A8 ms c8 w6 (P5.out.2.2.on hb) P5.out.1 P5.out.2.1 g3)
          have hd : decide (ms = ms) = true := by simp
          rw [hd] at K
          have hee : (E == E) = true := by simp
          clear hb g1 g2 g3 hd
          go_wp2_with fail
          (with_reducible refine K.out.mono ?_)
          rintro e w7 ⟨rfl, hb⟩
          have B7 := Lib.hid (B6.out.trans (hb.mono B6.out.size))
          clear hb K
          go_wp2
          go_ret
          exact ⟨rfl, B7.out⟩
        · rw [h1]
          have hne : (putE l b y != 0) = true := by simpa using h2
          clear h1 h2
          generalize putE l b y = E at *
          generalize putR l a x = r1 at *
          generalize putR l b y = r2 at *
          go_wp2
          go_ret
          exact ⟨rfl, B4.out⟩
      · have hne : (putE l a x != 0) = true := by simpa using h1
        clear h1
        generalize putE l a x = E at *
        generalize putE l b y = E' at *
        generalize putR l a x = r1 at *
        generalize putR l b y = r2 at *
        go_wp2
        go_ret
        exact ⟨rfl, B4.out⟩
  · have hd : decide (RightM l) = false := by simpa using hr
    rw [hd] at K
    clear hd hr
    go_wp2_with fail
    (with_reducible refine K.out.mono ?_)
    rintro e w2 ⟨rfl, hb⟩
    have B2 := Lib.hid (B1.out.trans (hb.mono B1.out.size))
    clear hb K
    go_wp2
    go_ret
    exact ⟨rfl, B2.out⟩
end Go.Proofs.Ytfcoccmbabmihaa
