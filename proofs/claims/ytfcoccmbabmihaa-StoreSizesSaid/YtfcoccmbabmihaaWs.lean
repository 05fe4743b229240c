/- The walk of StoreSizes. Conditions: what is read lies in memory; a row is not longer than memory. -/
import Derived.Test.YtfcoccmbabmihaaWo
namespace Go.Proofs.Ytfcoccmbabmihaa
open Go.RowKit
set_option linter.unusedSimpArgs false
set_option linter.unusedVariables false

theorem getM_le {l : List PR} (h : RightM l) (k : List Int) : (getM l k).length ≤ 256 := by
  unfold getM
  by_cases hf : fnd k l < l.length
  · obtain ⟨v, hv⟩ := fnd_at hf
    rw [List.getD, hv]
    exact (h.1 _ (List.mem_of_getElem? hv)).2
  · rw [List.getD, List.getElem?_eq_none (by omega)]
    simp

set_option maxHeartbeats 3200000 in
theorem sizes_walk (A0 A1 A2 : Option Addr) (l : List PR) (k v : List Int) (c0 c1 c2 : Nat) (w : World) (h0 : l.length ≤ c0) (hm : c0 ≤ maxLen) (hl : l.length ≤ 2932031007402) (hp : Prs w w.heap.size A0 c0 l)
    (sk : SB w w.heap.size (.slice A1 k.length c1) k) (sv : SB w w.heap.size (.slice A2 v.length c2) v) (hk : c1 ≤ 140737488351232) (hv : c2 ≤ 140737488351232) :
    Calls Try.prog 7 #[.slice A0 l.length c0, .slice A1 k.length c1, .slice A2 v.length c2] w fun e w' => e = .returned (.bool true) ∧ Below w.heap.size w w' := by
  have HP := Lib.hid hp
  have HK := Lib.hid sk
  have HV := Lib.hid sv
  have hm' := hm
  have hkl : k.length ≤ 140737488351232 := by obtain ⟨_, _, e, h1, _⟩ := sk; injection e with _ _ e; omega
  have hvl : v.length ≤ 140737488351232 := by obtain ⟨_, _, e, h1, _⟩ := sv; injection e with _ _ e; omega
  clear hp sk sv hk hv
  unfold maxLen at hm
  go_enter Try.func7, Try.ntmps7
  go_wp2_with fail
  refine (headC _).mono ?_
  rintro e w1 ⟨rfl, hb⟩
  have B1 := Lib.hid hb
  have K := Lib.hid (rightC A0 l c0 w1 (HP.out.on hb) h0 hm' hl)
  clear hb
  by_cases hr : RightM l
  · have hd : decide (RightM l) = true := by simpa using hr
    rw [hd] at K
    have HR := Lib.hid hr
    obtain ⟨hs, hl2⟩ := right_sml hr
    have HS := Lib.hid hs
    have hz := hr.2.2
    have hgl := getM_le hr k
    have hsz := szM_putM l k v
    have HSZ := Lib.hid hsz
    clear hd hr hs hsz
    go_wp2_with fail
    (with_reducible refine K.out.mono ?_)
    rintro e w2 ⟨rfl, hb⟩
    have B2 := Lib.hid (B1.out.trans (hb.mono B1.out.size))
    clear hb K
    have K1 := Lib.hid (getC A0 l c0 A1 k c1 w2 (HP.out.on B2.out) h0 hm' (HK.out.on B2.out) HS.out)
    go_wp2_with fail
    (with_reducible refine K1.out.mono ?_)
    clear K1
    rintro e w3 ⟨V, rfl, ho, hy, hb⟩
    have B3 := Lib.hid (B2.out.trans (hb.mono B2.out.size))
    obtain ⟨Ag, cg, rfl, _⟩ := own_SB ho hy
    have K1 := Lib.hid (sizeC A0 l c0 w3 (HP.out.on B3.out) h0 hm' HS.out.sz)
    clear ho hy hb
    go_wp2_with fail
    (with_reducible refine K1.out.mono ?_)
    clear K1
    rintro e w4 ⟨rfl, hb⟩
    have B4 := Lib.hid (B3.out.trans (hb.mono B3.out.size))
    clear hb
    have K1 := Lib.hid (putC A0 l c0 A1 k c1 A2 v c2 w4 (HP.out.on B4.out) h0 hm' (HK.out.on B4.out) (HV.out.on B4.out) HS.out (by omega))
    cases hh : hasM l k with
    | true =>
      have HW : Hid ((szM l : Int) + v.length - (getM l k).length = szM (putM l k v)) := by show _ = _; rw [HSZ.out, hh]; simp
      go_wp2_with fail
      generalize hX : (szM l : Int) + v.length - (getM l k).length = X
      have hXz : X = (szM (putM l k v) : Nat) := by rw [← hX]; exact HW.out
      clear hX HW
      by_cases h1 : 64 < k.length ∨ 256 < v.length
      · have hE : putE l k v = 1 := if_pos h1
        have hR : putR l k v = [] := if_neg (by rw [hE]; decide)
        rw [hE, hR] at K1
        have HXX := Lib.hid hXz
        clear hE hR hXz
        by_cases h2 : 64 < k.length
        · clear h1
          (with_reducible refine K1.out.mono ?_)
          clear K1
          rintro e w5 ⟨A5, c5, rfl, g1, g2, g3, hb⟩
          have B5 := Lib.hid (B4.out.trans (hb.mono B4.out.size))
          clear g1 g2 g3 hb
          go_wp2
          go_ret
          exact ⟨rfl, B5.out⟩
        · have h3 : 256 < v.length := by omega
          clear h1
          (with_reducible refine K1.out.mono ?_)
          clear K1
          rintro e w5 ⟨A5, c5, rfl, g1, g2, g3, hb⟩
          have B5 := Lib.hid (B4.out.trans (hb.mono B4.out.size))
          clear g1 g2 g3 hb
          go_wp2
          go_ret
          exact ⟨rfl, B5.out⟩
      · have h2 : k.length ≤ 64 := by omega
        have h3 : v.length ≤ 256 := by omega
        by_cases hq : 2048 < szM (putM l k v)
        · have hE : putE l k v = 71 := by unfold putE; rw [if_neg h1, if_pos hq]
          have hR : putR l k v = [] := if_neg (by rw [hE]; decide)
          rw [hE, hR] at K1
          have hq' : (2048 : Int) < X := by omega
          have HXX := Lib.hid hXz
          clear hE hR hXz h1 hq
          (with_reducible refine K1.out.mono ?_)
          clear K1
          rintro e w5 ⟨A5, c5, rfl, g1, g2, g3, hb⟩
          have B5 := Lib.hid (B4.out.trans (hb.mono B4.out.size))
          clear g1 g2 g3 hb
          go_wp2
          go_ret
          exact ⟨rfl, B5.out⟩
        · have hE : putE l k v = 0 := by unfold putE; rw [if_neg h1, if_neg hq]
          have hR := putR_0 hE
          rw [hE, hR] at K1
          have hm1 := right_putM HR.out hE
          obtain ⟨q1, q1'⟩ := right_sml hm1
          have hpl := puts_plain HR.out k v
          have hdz := szM_delM hpl.1 hpl.2.1
          have HQ := Lib.hid q1
          have hzq : szM (putM l k v) ≤ 2048 := by omega
          clear hE hR h1 hq hm1 hpl q1
          generalize hms : putM l k v = ms at *
          have HMS := Lib.hid hms
          clear hms
          generalize hzz : szM ms = z at *
          have HZZ := Lib.hid hzz
          clear hzz
          generalize hdd : szM (delM ms k) = zd at *
          have HDD := Lib.hid hdd
          clear hdd
          subst hXz
          have hcmp : ((zd : Int) == (z : Int) - 8 - (k.length : Int) - (v.length : Int)) = true := by simp; omega
          have hcmp2 : ((z : Int) == (z : Int)) = true := by simp
          have HDZ := Lib.hid hdz
          clear hdz
          (with_reducible refine K1.out.mono ?_)
          clear K1
          rintro e w5 ⟨A5, c5, rfl, g1, g2, g3, hb⟩
          have B5 := Lib.hid (B4.out.trans (hb.mono B4.out.size))
          have P5 : Hid (ms.length ≤ c5 ∧ c5 ≤ maxLen ∧ Prs w5 w5.heap.size A5 c5 ms) := ⟨g1, g2, g3⟩
          have K2 := Lib.hid (sizeC A5 ms c5 w5 g3 g1 g2 HQ.out.sz)
          rw [HZZ.out] at K2
          clear g1 g2 g3 hb
          go_wp2_with fail
          (with_reducible refine K2.out.mono ?_)
          clear K2
          rintro e w6 ⟨rfl, hb⟩
          have B6 := Lib.hid (B5.out.trans (hb.mono B5.out.size))
          have K2 : Hid (Calls Try.prog 18 #[.slice A5 ms.length c5, .slice A1 k.length c1] w6 (NewPrs w6 (delM ms k))) := delC A5 ms c5 A1 k c1 w6 (P5.out.2.2.on hb) P5.out.1 P5.out.2.1 (HK.out.on B6.out) HQ.out
          clear hb
          go_wp2_with fail
          (with_reducible refine K2.out.mono ?_)
          clear K2
          rintro e w7 ⟨A7, c7, rfl, g1, g2, g3, hb⟩
          have B7 := Lib.hid (B6.out.trans (hb.mono B6.out.size))
          have K2 := Lib.hid (sizeC A7 _ c7 w7 g3 g1 g2 (sml_delM HQ.out k).sz)
          have hde : szM (delM ms k) = zd := HDD.out
          rw [hde] at K2
          clear g1 g2 g3 hb hde
          go_wp2_with fail
          (with_reducible refine K2.out.mono ?_)
          clear K2
          rintro e w8 ⟨rfl, hb⟩
          have B8 := Lib.hid (B7.out.trans (hb.mono B7.out.size))
          clear hb
          go_wp2
          go_ret
          exact ⟨rfl, B8.out⟩
    | false =>
      have HW : Hid ((szM l : Int) + v.length - (getM l k).length + 8 + k.length = szM (putM l k v)) := by show _ = _; rw [HSZ.out, hh]; simp; omega
      go_wp2_with fail
      generalize hX : (szM l : Int) + v.length - (getM l k).length + 8 + k.length = X
      have hXz : X = (szM (putM l k v) : Nat) := by rw [← hX]; exact HW.out
      clear hX HW
      by_cases h1 : 64 < k.length ∨ 256 < v.length
      · have hE : putE l k v = 1 := if_pos h1
        have hR : putR l k v = [] := if_neg (by rw [hE]; decide)
        rw [hE, hR] at K1
        have HXX := Lib.hid hXz
        clear hE hR hXz
        by_cases h2 : 64 < k.length
        · clear h1
          (with_reducible refine K1.out.mono ?_)
          clear K1
          rintro e w5 ⟨A5, c5, rfl, g1, g2, g3, hb⟩
          have B5 := Lib.hid (B4.out.trans (hb.mono B4.out.size))
          clear g1 g2 g3 hb
          go_wp2
          go_ret
          exact ⟨rfl, B5.out⟩
        · have h3 : 256 < v.length := by omega
          clear h1
          (with_reducible refine K1.out.mono ?_)
          clear K1
          rintro e w5 ⟨A5, c5, rfl, g1, g2, g3, hb⟩
          have B5 := Lib.hid (B4.out.trans (hb.mono B4.out.size))
          clear g1 g2 g3 hb
          go_wp2
          go_ret
          exact ⟨rfl, B5.out⟩
      · have h2 : k.length ≤ 64 := by omega
        have h3 : v.length ≤ 256 := by omega
        by_cases hq : 2048 < szM (putM l k v)
        · have hE : putE l k v = 71 := by unfold putE; rw [if_neg h1, if_pos hq]
          have hR : putR l k v = [] := if_neg (by rw [hE]; decide)
          rw [hE, hR] at K1
          have hq' : (2048 : Int) < X := by omega
          have HXX := Lib.hid hXz
          clear hE hR hXz h1 hq
          (with_reducible refine K1.out.mono ?_)
          clear K1
          rintro e w5 ⟨A5, c5, rfl, g1, g2, g3, hb⟩
          have B5 := Lib.hid (B4.out.trans (hb.mono B4.out.size))
          clear g1 g2 g3 hb
          go_wp2
          go_ret
          exact ⟨rfl, B5.out⟩
        · have hE : putE l k v = 0 := by unfold putE; rw [if_neg h1, if_neg hq]
          have hR := putR_0 hE
          rw [hE, hR] at K1
          have hm1 := right_putM HR.out hE
          obtain ⟨q1, q1'⟩ := right_sml hm1
          have hpl := puts_plain HR.out k v
          have hdz := szM_delM hpl.1 hpl.2.1
          have HQ := Lib.hid q1
          have hzq : szM (putM l k v) ≤ 2048 := by omega
          clear hE hR h1 hq hm1 hpl q1
          generalize hms : putM l k v = ms at *
          have HMS := Lib.hid hms
          clear hms
          generalize hzz : szM ms = z at *
          have HZZ := Lib.hid hzz
          clear hzz
          generalize hdd : szM (delM ms k) = zd at *
          have HDD := Lib.hid hdd
          clear hdd
          subst hXz
          have hcmp : ((zd : Int) == (z : Int) - 8 - (k.length : Int) - (v.length : Int)) = true := by simp; omega
          have hcmp2 : ((z : Int) == (z : Int)) = true := by simp
          have HDZ := Lib.hid hdz
          clear hdz
          (with_reducible refine K1.out.mono ?_)
          clear K1
          rintro e w5 ⟨A5, c5, rfl, g1, g2, g3, hb⟩
          have B5 := Lib.hid (B4.out.trans (hb.mono B4.out.size))
          have P5 : Hid (ms.length ≤ c5 ∧ c5 ≤ maxLen ∧ Prs w5 w5.heap.size A5 c5 ms) := ⟨g1, g2, g3⟩
          have K2 := Lib.hid (sizeC A5 ms c5 w5 g3 g1 g2 HQ.out.sz)
          rw [HZZ.out] at K2
          clear g1 g2 g3 hb
          go_wp2_with fail
          (with_reducible refine K2.out.mono ?_)
          clear K2
          rintro e w6 ⟨rfl, hb⟩
          have B6 := Lib.hid (B5.out.trans (hb.mono B5.out.size))
          have K2 : Hid (Calls Try.prog 18 #[.slice A5 ms.length c5, .slice A1 k.length c1] w6 (NewPrs w6 (delM ms k))) := delC A5 ms c5 A1 k c1 w6 (P5.out.2.2.on hb) P5.out.1 P5.out.2.1 (HK.out.on B6.out) HQ.out
          clear hb
          go_wp2_with fail
          (with_reducible refine K2.out.mono ?_)
          clear K2
          rintro e w7 ⟨A7, c7, rfl, g1, g2, g3, hb⟩
          have B7 := Lib.hid (B6.out.trans (hb.mono B6.out.size))
          have K2 := Lib.hid (sizeC A7 _ c7 w7 g3 g1 g2 (sml_delM HQ.out k).sz)
          have hde : szM (delM ms k) = zd := HDD.out
          rw [hde] at K2
          clear g1 g2 g3 hb hde
          go_wp2_with fail
          (with_reducible refine K2.out.mono ?_)
          clear K2
          rintro e w8 ⟨rfl, hb⟩
          have B8 := Lib.hid (B7.out.trans (hb.mono B7.out.size))
          clear hb
          go_wp2
          go_ret
          exact ⟨rfl, B8.out⟩
  · have hd : decide (RightM l) = false := by simpa using hr
    rw [hd] at K
    clear hd hr
    go_wp2_with fail
    (with_reducible refine K.out.mono ?_)
    rintro e w2 ⟨rfl, hb⟩
    have B2 := Lib.hid (B1.out.trans (hb.mono B1.out.size))
    clear hb K
    go_wp2
    go_ret
    exact ⟨rfl, B2.out⟩
end Go.Proofs.Ytfcoccmbabmihaa
