/- The walk of StorePuts. Conditions: what is read lies in memory; a row is not longer than memory. -/
import Derived.Test.YtfcoccmbabmihaaWs
namespace Go.Proofs.Ytfcoccmbabmihaa
open Go.RowKit
set_option linter.unusedSimpArgs false
set_option linter.unusedVariables false

set_option maxHeartbeats 3200000 in
theorem puts_walk (A0 A1 A2 A3 : Option Addr) (l : List PR) (k v o : List Int) (c0 c1 c2 c3 : Nat) (w : World) (h0 : l.length ≤ c0) (hm : c0 ≤ maxLen) (hl : l.length ≤ 2932031007402) (hp : Prs w w.heap.size A0 c0 l)
    (sk : SB w w.heap.size (.slice A1 k.length c1) k) (sv : SB w w.heap.size (.slice A2 v.length c2) v) (so : SB w w.heap.size (.slice A3 o.length c3) o) :
    Calls Try.prog 4 #[.slice A0 l.length c0, .slice A1 k.length c1, .slice A2 v.length c2, .slice A3 o.length c3] w fun e w' => e = .returned (.bool true) ∧ Below w.heap.size w w' := by
  have HP := Lib.hid hp
  have HK := Lib.hid sk
  have HV := Lib.hid sv
  have HO := Lib.hid so
  have hm' := hm
  have hkl : k.length ≤ maxLen := by obtain ⟨_, _, e, h1, h2, _⟩ := sk; omega
  have hvl : v.length ≤ maxLen := by obtain ⟨_, _, e, h1, h2, _⟩ := sv; omega
  clear hp sk sv so
  unfold maxLen at hm hkl hvl
  go_enter Try.func4, Try.ntmps4
  go_wp2_with fail
  refine (headC _).mono ?_
  rintro e w1 ⟨rfl, hb⟩
  have B1 := Lib.hid hb
  have K := Lib.hid (rightC A0 l c0 w1 (HP.out.on hb) h0 hm' hl)
  clear hb
  by_cases hr : RightM l
  · have hd : decide (RightM l) = true := by simpa using hr
    rw [hd] at K
    have HR := Lib.hid hr
    obtain ⟨hs, hl2⟩ := right_sml hr
    have HS := Lib.hid hs
    clear hd hr hs
    go_wp2_with fail
    (with_reducible refine K.out.mono ?_)
    rintro e w2 ⟨rfl, hb⟩
    have B2 := Lib.hid (B1.out.trans (hb.mono B1.out.size))
    clear hb K
    have K1 := Lib.hid (putC A0 l c0 A1 k c1 A2 v c2 w2 (HP.out.on B2.out) h0 hm' (HK.out.on B2.out) (HV.out.on B2.out) HS.out (by omega))
    by_cases hE : putE l k v = 0
    · have hR := putR_0 hE
      have hm1 := right_putM HR.out hE
      have hmd := right_delM hm1 k
      have hpl := puts_plain HR.out k v
      rw [hE, hR] at K1
      obtain ⟨q1, q1'⟩ := right_sml hm1
      obtain ⟨q2, q2'⟩ := right_sml hmd
      have hdm : decide (RightM (putM l k v)) = true := by simpa using hm1
      have hdd : decide (RightM (delM (putM l k v) k)) = true := by simpa using hmd
      have HPL := Lib.hid hpl
      have HQ : Hid (Sml (putM l k v) ∧ Sml (delM (putM l k v) k) ∧ (putM l k v).length ≤ 256 ∧ (delM (putM l k v) k).length ≤ 256) := ⟨q1, q2, q1', q2'⟩
      have HD : Hid (decide (RightM (putM l k v)) = true ∧ decide (RightM (delM (putM l k v) k)) = true) := ⟨hdm, hdd⟩
      clear hE hR hm1 hmd hpl q1 q1' q2 q2' hdm hdd
      generalize hds : delM (putM l k v) k = ds at *
      have HDS := Lib.hid hds
      clear hds
      generalize hms : putM l k v = ms at *
      have HMS := Lib.hid hms
      clear hms
      go_wp2_with fail
      (with_reducible refine K1.out.mono ?_)
      clear K1
      rintro e w3 ⟨A5, c5, rfl, g1, g2, g3, hb⟩
      have B3 := Lib.hid (B2.out.trans (hb.mono B2.out.size))
      have P3 : Hid (ms.length ≤ c5 ∧ c5 ≤ maxLen ∧ Prs w3 w3.heap.size A5 c5 ms) := ⟨g1, g2, g3⟩
      have K1 := Lib.hid (getC A5 ms c5 A1 k c1 w3 g3 g1 g2 (HK.out.on B3.out) HQ.out.1)
      rw [HPL.out.1, HPL.out.2.1] at K1
      clear hb g1 g2 g3
      go_wp2_with fail
      (with_reducible refine K1.out.mono ?_)
      clear K1
      rintro e w4 ⟨V, rfl, ho, hy, hb⟩
      have B4 := Lib.hid (B3.out.trans (hb.mono B3.out.size))
      have hS4 := own_SB ho hy
      obtain ⟨Av, cv, hV, _⟩ := id hS4
      subst hV
      have S4 := Lib.hid hS4
      have P4 := Lib.hid (P3.out.2.2.on hb)
      have K1 : Hid (Calls Try.prog 18 #[.slice A5 ms.length c5, .slice A1 k.length c1] w4 (NewPrs w4 (delM ms k))) := delC A5 ms c5 A1 k c1 w4 P4.out P3.out.1 P3.out.2.1 (HK.out.on B4.out) HQ.out.1
      rw [show delM ms k = ds from HDS.out] at K1
      clear ho hy hb hS4
      go_wp2_with fail
      (with_reducible refine K1.out.mono ?_)
      clear K1
      rintro e w5 ⟨A6, c6, rfl, g1, g2, g3, hb⟩
      have B5 := Lib.hid (B4.out.trans (hb.mono B4.out.size))
      have P5 : Hid (ds.length ≤ c6 ∧ c6 ≤ maxLen ∧ Prs w5 w5.heap.size A6 c6 ds ∧ Prs w5 w5.heap.size A5 c5 ms ∧ SB w5 w5.heap.size (.slice Av v.length cv) v) := ⟨g1, g2, g3, P4.out.on hb, S4.out.on hb⟩
      have K1 := Lib.hid (getC A6 ds c6 A1 k c1 w5 g3 g1 g2 (HK.out.on B5.out) HQ.out.2.1)
      rw [HPL.out.2.2.1, HPL.out.2.2.2.1] at K1
      clear hb g1 g2 g3
      go_wp2_with fail
      (with_reducible refine K1.out.mono ?_)
      clear K1
      rintro e w6 ⟨V6, rfl, ho, hy, hb⟩
      have B6 := Lib.hid (B5.out.trans (hb.mono B5.out.size))
      obtain ⟨A7, c7, hV, _⟩ := own_SB ho hy
      subst hV
      have P6 : Hid (Prs w6 w6.heap.size A6 c6 ds ∧ Prs w6 w6.heap.size A5 c5 ms) := ⟨P5.out.2.2.1.on hb, P5.out.2.2.2.1.on hb⟩
      have d1 := (P5.out.2.2.2.2.on hb).str
      have d2 := (HV.out.on B6.out).str
      have K1 := Lib.hid (rightC A5 ms c5 w6 P6.out.2 P3.out.1 P3.out.2.1 (by have := HQ.out.2.2.1; omega))
      rw [HD.out.1] at K1
      have K2 : Hid (∀ w7, Below w6.heap.size w6 w7 → Calls Try.prog 23 #[.slice A6 ds.length c6] w7 fun e w' => e = .returned (.bool (decide (RightM ds))) ∧ Below w7.heap.size w7 w') := fun w7 hb => rightC A6 ds c6 w7 (P6.out.1.on hb) P5.out.1 P5.out.2.1 (by have := HQ.out.2.2.2; omega)
      rw [HD.out.2] at K2
      have hss : ((strOfNums v).toList == (strOfNums v).toList) = true := by simp
      generalize strOfNums v = s at *
      clear ho hy hb
      go_wp2_with fail
      (with_reducible refine K1.out.mono ?_)
      clear K1 d1 d2 hss
      rintro e w7 ⟨rfl, hb⟩
      have B7 := Lib.hid (B6.out.trans (hb.mono B6.out.size))
      have C7 := Lib.hid hb
      have K2 := Lib.hid (K2.out w7 hb)
      clear hb
      go_wp2_with fail
      (with_reducible refine K2.out.mono ?_)
      clear K2
      rintro e w8 ⟨rfl, hb⟩
      have B8 := Lib.hid (B7.out.trans (hb.mono B7.out.size))
      have P8 : Hid (Prs w8 w8.heap.size A6 c6 ds ∧ Prs w8 w8.heap.size A5 c5 ms) := ⟨(P6.out.1.on C7.out).on hb, (P6.out.2.on C7.out).on hb⟩
      clear hb
      have K1 := Lib.hid (getC A0 l c0 A3 o c3 w8 (HP.out.on B8.out) h0 hm' (HO.out.on B8.out) HS.out)
      go_wp2_with fail
      (with_reducible refine K1.out.mono ?_)
      clear K1
      rintro e w9 ⟨V9, rfl, ho, hy, hb⟩
      have B9 := Lib.hid (B8.out.trans (hb.mono B8.out.size))
      have hS9 := own_SB ho hy
      obtain ⟨A9, c9, hV, _⟩ := id hS9
      subst hV
      have P9 : Hid (Prs w9 w9.heap.size A6 c6 ds ∧ Prs w9 w9.heap.size A5 c5 ms ∧ SB w9 w9.heap.size (.slice A9 (getM l o).length c9) (getM l o)) := ⟨P8.out.1.on hb, P8.out.2.on hb, hS9⟩
      have K1 := Lib.hid (getC A5 ms c5 A3 o c3 w9 P9.out.2.1 P3.out.1 P3.out.2.1 (HO.out.on B9.out) HQ.out.1)
      clear ho hy hb hS9
      go_wp2_with fail
      (with_reducible refine K1.out.mono ?_)
      clear K1
      rintro e w10 ⟨V10, rfl, ho, hy, hb⟩
      have B10 := Lib.hid (B9.out.trans (hb.mono B9.out.size))
      have hS10 := own_SB ho hy
      obtain ⟨A10, c10, hV, _⟩ := id hS10
      subst hV
      have P10 : Hid (Prs w10 w10.heap.size A6 c6 ds ∧ SB w10 w10.heap.size (.slice A9 (getM l o).length c9) (getM l o) ∧ SB w10 w10.heap.size (.slice A10 (getM ms o).length c10) (getM ms o)) := ⟨P9.out.1.on hb, P9.out.2.2.on hb, hS10⟩
      have K1 := Lib.hid (getC A6 ds c6 A3 o c3 w10 P10.out.1 P5.out.1 P5.out.2.1 (HO.out.on B10.out) HQ.out.2.1)
      clear ho hy hb hS10
      go_wp2_with fail
      (with_reducible refine K1.out.mono ?_)
      clear K1
      rintro e w11 ⟨V11, rfl, ho, hy, hb⟩
      have B11 := Lib.hid (B10.out.trans (hb.mono B10.out.size))
      have hS11 := own_SB ho hy
      obtain ⟨A11, c11, hV, _⟩ := id hS11
      subst hV
      have P11 : Hid (SB w11 w11.heap.size (.slice A9 (getM l o).length c9) (getM l o) ∧ SB w11 w11.heap.size (.slice A10 (getM ms o).length c10) (getM ms o) ∧ SB w11 w11.heap.size (.slice A11 (getM ds o).length c11) (getM ds o)) := ⟨P10.out.2.1.on hb, P10.out.2.2.on hb, hS11⟩
      clear ho hy hb hS11
      have d1 := (HO.out.on B11.out).str
      have d2 := (HK.out.on B11.out).str
      have hse := str_eq HO.out.byt HK.out.byt
      by_cases hok : o = k
      · have he : ((strOfNums o).toList == (strOfNums k).toList) = true := by rw [hse]; simpa using hok
        have hh : hasM ds o = false := by rw [hok]; exact HPL.out.2.2.1
        rw [hh]
        clear hse hh
        generalize strOfNums o = s1 at *
        generalize strOfNums k = s2 at *
        generalize hasM l o = b1 at *
        generalize hasM ms o = b2 at *
        generalize getM l o = x1 at *
        generalize getM ms o = x2 at *
        generalize getM ds o = x3 at *
        clear hok
        go_wp2
        go_ret
        exact ⟨rfl, B11.out⟩
      · have he : ((strOfNums o).toList == (strOfNums k).toList) = false := by rw [hse]; simpa using hok
        obtain ⟨⟨e1, e2⟩, e3, e4⟩ := HPL.out.2.2.2.2 o hok
        rw [← e3, ← e1]
        rw [← e4, ← e2] at P11
        rw [← e4, ← e2]
        clear hse hok e1 e2 e3 e4
        have d3 := P11.out.1.str
        have d4 := P11.out.2.1.str
        have d5 := P11.out.2.2.str
        have hss : ((strOfNums (getM l o)).toList == (strOfNums (getM l o)).toList) = true := by simp
        generalize strOfNums o = s1 at *
        generalize strOfNums k = s2 at *
        generalize strOfNums (getM l o) = s3 at *
        generalize getM l o = x1 at *
        cases hasM l o
        all_goals
          go_wp2
          go_ret
          exact ⟨rfl, B11.out⟩
    · have hR : putR l k v = [] := if_neg hE
      have hne : (putE l k v != 0) = true := by simpa using hE
      rw [hR] at K1
      clear hR
      have hcase : putE l k v = 71 ∨ (putE l k v = 1 ∧ 64 < k.length) ∨ (putE l k v = 1 ∧ k.length ≤ 64 ∧ 256 < v.length) := by
        unfold putE at hE ⊢
        by_cases h1 : 64 < k.length ∨ 256 < v.length
        · rw [if_pos h1]; omega
        · rw [if_neg h1] at hE ⊢
          by_cases h2 : 2048 < szM (putM l k v)
          · rw [if_pos h2]; omega
          · rw [if_neg h2] at hE; omega
      clear hE
      rcases hcase with h1 | ⟨h1, h2⟩ | ⟨h1, h2, h3⟩
      all_goals
        rw [h1] at K1
        clear h1 hne
        go_wp2_with fail
        (with_reducible refine K1.out.mono ?_)
        clear K1
        rintro e w3 ⟨A5, c5, rfl, g1, g2, g3, hb⟩
        have B3 := Lib.hid (B2.out.trans (hb.mono B2.out.size))
        clear hb g1 g2 g3
        go_wp2
        go_ret
        exact ⟨by first | rfl | (refine ret_bool ?_; simp; done) | (refine ret_bool ?_; simp; omega), B3.out⟩
  · have hd : decide (RightM l) = false := by simpa using hr
    rw [hd] at K
    clear hd hr
    go_wp2_with fail
    (with_reducible refine K.out.mono ?_)
    rintro e w2 ⟨rfl, hb⟩
    have B2 := Lib.hid (B1.out.trans (hb.mono B1.out.size))
    clear hb K
    go_wp2
    go_ret
    exact ⟨rfl, B2.out⟩
end Go.Proofs.Ytfcoccmbabmihaa
