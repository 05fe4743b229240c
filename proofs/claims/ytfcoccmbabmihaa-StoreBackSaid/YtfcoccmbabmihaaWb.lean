/- The walk of StoreBack. Conditions: what is read lies in memory. -/
import Derived.Test.YtfcoccmbabmihaaTg
import Derived.Test.YtfcoccmbabmihaaTr
namespace Go.Proofs.Ytfcoccmbabmihaa
open Go.RowKit
set_option linter.unusedSimpArgs false
set_option linter.unusedVariables false

set_option maxHeartbeats 3200000 in
theorem back_walk7 (A0 A1 A2 : Option Addr) (l m : List PR) (b : List Int) (c0 c1 c2 : Nat) (w : World) (h0 : l.length ≤ c0) (hm0 : c0 ≤ maxLen) (hp0 : Prs w w.heap.size A0 c0 l) (h1 : m.length ≤ c1) (hm1 : c1 ≤ maxLen) (hp1 : Prs w w.heap.size A1 c1 m)
    (sb : SB w w.heap.size (.slice A2 b.length c2) b) :
    Calls Try.prog 5 #[.slice A0 l.length c0, .slice A1 m.length c1, .slice A2 b.length c2] w fun e w' => e = .returned (.bool true) ∧ Below w.heap.size w w' := by
  have HP := Lib.hid hp0
  have HQ := Lib.hid hp1
  have HS := Lib.hid sb
  have hm0' := hm0
  have hm1' := hm1
  clear hp0 hp1 sb
  unfold maxLen at hm0 hm1
  go_enter Try.func5, Try.ntmps5
  go_wp2_with fail
  refine (headC _).mono ?_
  rintro e w1 ⟨rfl, hb⟩
  have B1 := Lib.hid hb
  have K := Lib.hid (greatC A0 l c0 w1 (HP.out.on hb) h0 hm0')
  clear hb
  go_wp2_with fail
  (with_reducible refine K.out.mono ?_)
  clear K
  rintro e w2 ⟨q1, rfl, hq1, hb⟩
  have B2 := Lib.hid (B1.out.trans (hb.mono B1.out.size))
  clear hb
  cases q1 with
  | true =>
    clear hq1
    go_wp2
    go_ret
    exact ⟨rfl, B2.out⟩
  | false =>
  obtain ⟨hs0, hl0⟩ := hq1 rfl
  have HS0 := Lib.hid hs0
  have K := Lib.hid (greatC A1 m c1 w2 (HQ.out.on B2.out) h1 hm1')
  clear hs0 hq1
  go_wp2_with fail
  (with_reducible refine K.out.mono ?_)
  clear K
  rintro e w3 ⟨q2, rfl, hq2, hb⟩
  have B3 := Lib.hid (B2.out.trans (hb.mono B2.out.size))
  clear hb
  cases q2 with
  | true =>
    clear hq2
    go_wp2
    go_ret
    exact ⟨rfl, B3.out⟩
  | false =>
  obtain ⟨hs1, hl1⟩ := hq2 rfl
  have HS1 := Lib.hid hs1
  have K := Lib.hid (bytesC A0 l c0 w3 (HP.out.on B3.out) h0 hm0' (by omega))
  clear hs1 hq2
  go_wp2_with fail
  (with_reducible refine K.out.mono ?_)
  clear K
  rintro e w4 ⟨vx, rfl, ho, hb⟩
  have B4 := Lib.hid (B3.out.trans (hb.mono B3.out.size))
  have HX := Lib.hid (own_SB ho (wr_byt HP.out.byt))
  obtain ⟨Ax, cx, hV, _⟩ := HX.out
  subst hV
  have K := Lib.hid (bytesC A1 m c1 w4 (HQ.out.on B4.out) h1 hm1' (by omega))
  clear ho hb
  go_wp2_with fail
  (with_reducible refine K.out.mono ?_)
  clear K
  rintro e w5 ⟨vy, rfl, ho, hb⟩
  have B5 := Lib.hid (B4.out.trans (hb.mono B4.out.size))
  have HXY : Hid (SB w5 w5.heap.size (.slice Ax (wrL l).length cx) (wrL l) ∧ SB w5 w5.heap.size vy (wrL m)) := ⟨HX.out.on hb, own_SB ho (wr_byt HQ.out.byt)⟩
  obtain ⟨Ay, cy, hV, _⟩ := HXY.out.2
  subst hV
  have K := Lib.hid (rightC A0 l c0 w5 (HP.out.on B5.out) h0 hm0' (by omega))
  clear ho hb HX
  by_cases hr : RightM l
  · have hd : decide (RightM l) = true := by simpa using hr
    have hE : wrE l = 0 := if_pos hr
    rw [hd] at K
    rw [hE]
    have hrd := rd_wr hr
    have HWB := Lib.hid (wr_byt HP.out.byt)
    go_wp2_with fail
    (with_reducible refine K.out.mono ?_)
    clear K
    rintro e w6 ⟨rfl, hb⟩
    have B6 := Lib.hid (B5.out.trans (hb.mono B5.out.size))
    have XY6 : Hid (SB w6 w6.heap.size (.slice Ax (wrL l).length cx) (wrL l) ∧ SB w6 w6.heap.size (.slice Ay (wrL m).length cy) (wrL m)) := ⟨HXY.out.1.on hb, HXY.out.2.on hb⟩
    have K := Lib.hid (readC Ax (wrL l) cx w6 XY6.out.1)
    rw [hrd.1, hrd.2] at K
    clear hb hrd hd hE
    go_wp2_with fail
    (with_reducible refine K.out.mono ?_)
    clear K
    rintro e wx ⟨Ak, ck, rfl, k1, k2, k3, hb⟩
    have Bx := Lib.hid (B6.out.trans (hb.mono B6.out.size))
    have XYx : Hid (SB wx wx.heap.size (.slice Ax (wrL l).length cx) (wrL l) ∧ SB wx wx.heap.size (.slice Ay (wrL m).length cy) (wrL m)) := ⟨XY6.out.1.on hb, XY6.out.2.on hb⟩
    have HSm : Hid (∀ w', Below wx.heap.size wx w' → Calls Try.prog 19 #[.slice Ak l.length ck, .slice A0 l.length c0] w' fun e w'' => e = .returned (.bool true) ∧ Below w'.heap.size w' w'') := fun w' hb' => by
      have := sameC Ak l ck A0 l c0 w' (k3.on hb') k1 k2 (HP.out.on (Bx.out.trans (hb'.mono Bx.out.size)))
      rwa [show decide (l = l) = true by simp] at this
    clear k1 k2 k3 hb
    by_cases hrm : RightM m
    · have hE : wrE m = 0 := if_pos hrm
      rw [hE]
      have hinj := wr_inj hr hrm
      have hse := str_eq XYx.out.1.byt XYx.out.2.byt
      have HSn : Hid (∀ w', Below wx.heap.size wx w' → Calls Try.prog 19 #[.slice A0 l.length c0, .slice A1 m.length c1] w' fun e w'' => e = .returned (.bool (decide (l = m))) ∧ Below w'.heap.size w' w'') := fun w' hb' =>
        sameC A0 l c0 A1 m c1 w' (HP.out.on (Bx.out.trans (hb'.mono Bx.out.size))) h0 hm0' (HQ.out.on (Bx.out.trans (hb'.mono Bx.out.size)))
      have HD1 : Hid (∀ w', Below wx.heap.size wx w' → (convert 23 9 (.slice Ax (wrL l).length cx)).run Try.prog w' = .ok (.string (strOfNums (wrL l))) w') := fun w' hb' => (XYx.out.1.on hb').str
      have HD2 : Hid (∀ w', Below wx.heap.size wx w' → (convert 23 9 (.slice Ay (wrL m).length cy)).run Try.prog w' = .ok (.string (strOfNums (wrL m))) w') := fun w' hb' => (XYx.out.2.on hb').str
      cases hq : decide (l = m) with
      | true =>
        have he : ((strOfNums (wrL l)).toList == (strOfNums (wrL m)).toList) = true := by rw [hse]; simpa using hinj.2 (of_decide_eq_true hq)
        rw [hq] at HSn
        clear hse hinj hq hE hr hrm
        generalize strOfNums (wrL l) = s1 at *
        generalize strOfNums (wrL m) = s2 at *
        generalize wrL l = x1 at *
        generalize wrL m = x2 at *
        go_wp2_with fail
        refine wp_region_held_drew (S := fun w' => Below wx.heap.size wx w') (by kernel_rfl) (Below.refl _ _).drew (fun hHeld => ?_)
        refine wpAnyH_take (i := 0) (v := ?vk0_1) rfl (by kernel_rfl) (by kernel_rfl) (by kernel_rfl) (fun _ _ _ h => h) (Or.inl ⟨by kernel_rfl, ?yk0_1⟩) (by assumption) ?rk0_1
        case yk0_1 => (intro w hSw; (try dsimp only at hSw); go_simp; (try with_reducible rfl))
        try simp only [Act.put, List.getElem_toArray, List.getElem_cons_zero, List.getElem_cons_succ, List.setIfInBounds_toArray, List.set_cons_zero, List.set_cons_succ]
        refine wpAnyH_take (i := 1) (v := ?vk0_2) rfl (by kernel_rfl) (by kernel_rfl) (by kernel_rfl) (fun _ _ _ h => h) (Or.inl ⟨by kernel_rfl, ?yk0_2⟩) (by assumption) ?rk0_2
        case yk0_2 => (intro w hSw; (try dsimp only at hSw); go_simp; (try with_reducible rfl))
        try simp only [Act.put, List.getElem_toArray, List.getElem_cons_zero, List.getElem_cons_succ, List.setIfInBounds_toArray, List.set_cons_zero, List.set_cons_succ]
        refine wpAnyH_take (i := 2) (v := ?vk0_3) rfl (by kernel_rfl) (by kernel_rfl) (by kernel_rfl) (fun _ _ _ h => h) (Or.inl ⟨by kernel_rfl, ?yk0_3⟩) (by assumption) ?rk0_3
        case yk0_3 => (intro w hSw; (try dsimp only at hSw); go_simp; (try with_reducible rfl))
        try simp only [Act.put, List.getElem_toArray, List.getElem_cons_zero, List.getElem_cons_succ, List.setIfInBounds_toArray, List.set_cons_zero, List.set_cons_succ]
        refine wpAnyH_take (i := 3) (v := ?vk0_4) rfl (by kernel_rfl) (by kernel_rfl) (by kernel_rfl) (fun _ _ _ h => h) (Or.inl ⟨by kernel_rfl, ?yk0_4⟩) (by assumption) ?rk0_4
        case yk0_4 => (intro w hSw; (try dsimp only at hSw); go_simp; (try with_reducible rfl))
        try simp only [Act.put, List.getElem_toArray, List.getElem_cons_zero, List.getElem_cons_succ, List.setIfInBounds_toArray, List.set_cons_zero, List.set_cons_succ]
        refine wpAnyH_take (i := 4) (v := ?vk0_5) rfl (by kernel_rfl) (by kernel_rfl) (by kernel_rfl) (fun _ _ _ h => h) (Or.inl ⟨by kernel_rfl, ?yk0_5⟩) (by assumption) ?rk0_5
        case yk0_5 => (intro w hSw; (try dsimp only at hSw); go_simp; (try with_reducible rfl))
        try simp only [Act.put, List.getElem_toArray, List.getElem_cons_zero, List.getElem_cons_succ, List.setIfInBounds_toArray, List.set_cons_zero, List.set_cons_succ]
        refine wpAnyH_ready (rs := [5]) (by kernel_rfl) (by simp) ?_
        refine AllReadyH.cons rfl (fun K hK => ?_) AllReadyH.nil
        go_simp
        (with_reducible refine (HSm.out _ (Below.refl _ _).drew).mono ?_)
        rintro e wq ⟨rfl, hb⟩
        have Cq : Hid (Below wx.heap.size wx wq) := (Below.refl _ _).drew.trans hb
        clear hb
        go_wp2_with fail
        refine hK.out _ _ Cq.out (fun hHeld => ?_)
        clear hK K
        refine wpAnyH_take (i := 6) (v := ?vk0_6) rfl (by kernel_rfl) (by kernel_rfl) (by kernel_rfl) (fun _ _ _ h => h) (Or.inl ⟨by kernel_rfl, ?yk0_6⟩) (by assumption) ?rk0_6
        case yk0_6 => (intro w hSw; (try dsimp only at hSw); go_simp; (try with_reducible rfl))
        try simp only [Act.put, List.getElem_toArray, List.getElem_cons_zero, List.getElem_cons_succ, List.setIfInBounds_toArray, List.set_cons_zero, List.set_cons_succ]
        refine wpAnyH_take (i := 7) (v := ?vk0_7) rfl (by kernel_rfl) (by kernel_rfl) (by kernel_rfl) (fun _ _ _ h => h) (Or.inl ⟨by kernel_rfl, ?yk0_7⟩) (by assumption) ?rk0_7
        case yk0_7 => (intro w hSw; (try dsimp only at hSw); go_simp; (try with_reducible rfl))
        try simp only [Act.put, List.getElem_toArray, List.getElem_cons_zero, List.getElem_cons_succ, List.setIfInBounds_toArray, List.set_cons_zero, List.set_cons_succ]
        refine wpAnyH_take (i := 8) (v := ?vk0_8) rfl (by kernel_rfl) (by kernel_rfl) (by kernel_rfl) (fun _ _ _ h => h) (Or.inl ⟨by kernel_rfl, ?yk0_8⟩) (by assumption) ?rk0_8
        case yk0_8 => (intro w hSw; (try dsimp only at hSw); go_simp; (try with_reducible rfl))
        try simp only [Act.put, List.getElem_toArray, List.getElem_cons_zero, List.getElem_cons_succ, List.setIfInBounds_toArray, List.set_cons_zero, List.set_cons_succ]
        refine wpAnyH_take (i := 9) (v := ?vk0_9) rfl (by kernel_rfl) (by kernel_rfl) (by kernel_rfl) (fun _ _ _ h => h) (Or.inl ⟨by kernel_rfl, ?yk0_9⟩) (by assumption) ?rk0_9
        case yk0_9 => (intro w hSw; (try dsimp only at hSw); go_simp; (try with_reducible rfl))
        try simp only [Act.put, List.getElem_toArray, List.getElem_cons_zero, List.getElem_cons_succ, List.setIfInBounds_toArray, List.set_cons_zero, List.set_cons_succ]
        refine wpAnyH_take (i := 10) (v := ?vk0_10) rfl (by kernel_rfl) (by kernel_rfl) (by kernel_rfl) (fun _ _ _ h => h) (Or.inl ⟨by kernel_rfl, ?yk0_10⟩) (by assumption) ?rk0_10
        case yk0_10 => (intro w hSw; (try dsimp only at hSw); go_simp; (try with_reducible rfl))
        try simp only [Act.put, List.getElem_toArray, List.getElem_cons_zero, List.getElem_cons_succ, List.setIfInBounds_toArray, List.set_cons_zero, List.set_cons_succ]
        refine wpAnyH_take (i := 11) (v := ?vk0_11) rfl (by kernel_rfl) (by kernel_rfl) (by kernel_rfl) (fun _ _ _ h => h) (Or.inl ⟨by kernel_rfl, ?yk0_11⟩) (by assumption) ?rk0_11
        case yk0_11 => (intro w hSw; (try dsimp only at hSw); go_simp; (try with_reducible rfl))
        try simp only [Act.put, List.getElem_toArray, List.getElem_cons_zero, List.getElem_cons_succ, List.setIfInBounds_toArray, List.set_cons_zero, List.set_cons_succ]
        refine wpAnyH_take (i := 12) (v := ?vk0_12) rfl (by kernel_rfl) (by kernel_rfl) (by kernel_rfl) (fun _ _ _ h => h) (Or.inl ⟨by kernel_rfl, ?yk0_12⟩) (by assumption) ?rk0_12
        case yk0_12 => (intro w hSw; (try dsimp only at hSw); go_simp; (try with_reducible rfl))
        try simp only [Act.put, List.getElem_toArray, List.getElem_cons_zero, List.getElem_cons_succ, List.setIfInBounds_toArray, List.set_cons_zero, List.set_cons_succ]
        refine wpAnyH_take (i := 14) (v := ?vk0_13) rfl (by kernel_rfl) (by kernel_rfl) (by kernel_rfl) (fun _ _ _ h => h) (Or.inl ⟨by kernel_rfl, ?yk0_13⟩) (by assumption) ?rk0_13
        case yk0_13 => (intro w hSw; (try dsimp only at hSw); go_simp; (try with_reducible rfl))
        try simp only [Act.put, List.getElem_toArray, List.getElem_cons_zero, List.getElem_cons_succ, List.setIfInBounds_toArray, List.set_cons_zero, List.set_cons_succ]
        refine wpAnyH_take (i := 13) (v := ?vk0_14) rfl (by kernel_rfl) (by kernel_rfl) (by kernel_rfl) (fun _ _ _ h => h) (Or.inl ⟨by kernel_rfl, ?yk0_14⟩) (by assumption) ?rk0_14
        case yk0_14 => (intro w hSw; (try dsimp only at hSw); have qc := HD1.out _ hSw; go_simp; (try with_reducible rfl))
        try simp only [Act.put, List.getElem_toArray, List.getElem_cons_zero, List.getElem_cons_succ, List.setIfInBounds_toArray, List.set_cons_zero, List.set_cons_succ]
        refine wpAnyH_take (i := 15) (v := ?vk0_15) rfl (by kernel_rfl) (by kernel_rfl) (by kernel_rfl) (fun _ _ _ h => h) (Or.inl ⟨by kernel_rfl, ?yk0_15⟩) (by assumption) ?rk0_15
        case yk0_15 => (intro w hSw; (try dsimp only at hSw); have qc := HD2.out _ hSw; go_simp; (try with_reducible rfl))
        try simp only [Act.put, List.getElem_toArray, List.getElem_cons_zero, List.getElem_cons_succ, List.setIfInBounds_toArray, List.set_cons_zero, List.set_cons_succ]
        refine wpAnyH_take (i := 16) (v := ?vk0_16) rfl (by kernel_rfl) (by kernel_rfl) (by kernel_rfl) (fun _ _ _ h => h) (Or.inl ⟨by kernel_rfl, ?yk0_16⟩) (by assumption) ?rk0_16
        case yk0_16 => (intro w hSw; (try dsimp only at hSw); go_simp; (try with_reducible rfl))
        try simp only [Act.put, List.getElem_toArray, List.getElem_cons_zero, List.getElem_cons_succ, List.setIfInBounds_toArray, List.set_cons_zero, List.set_cons_succ]
        refine wpAnyH_take (i := 17) (v := ?vk0_17) rfl (by kernel_rfl) (by kernel_rfl) (by kernel_rfl) (fun _ _ _ h => h) (Or.inl ⟨by kernel_rfl, ?yk0_17⟩) (by assumption) ?rk0_17
        case yk0_17 => (intro w hSw; (try dsimp only at hSw); go_simp; (try with_reducible rfl))
        try simp only [Act.put, List.getElem_toArray, List.getElem_cons_zero, List.getElem_cons_succ, List.setIfInBounds_toArray, List.set_cons_zero, List.set_cons_succ]
        refine wpAnyH_take (i := 18) (v := ?vk0_18) rfl (by kernel_rfl) (by kernel_rfl) (by kernel_rfl) (fun _ _ _ h => h) (Or.inl ⟨by kernel_rfl, ?yk0_18⟩) (by assumption) ?rk0_18
        case yk0_18 => (intro w hSw; (try dsimp only at hSw); go_simp; (try with_reducible rfl))
        try simp only [Act.put, List.getElem_toArray, List.getElem_cons_zero, List.getElem_cons_succ, List.setIfInBounds_toArray, List.set_cons_zero, List.set_cons_succ]
        refine wpAnyH_ready (rs := [19]) (by kernel_rfl) (by simp) ?_
        refine AllReadyH.cons rfl (fun K hK => ?_) AllReadyH.nil
        go_simp
        (with_reducible refine (HSn.out _ Cq.out).mono ?_)
        rintro e wt ⟨rfl, hb⟩
        have Ct : Hid (Below wx.heap.size wx wt) := Cq.out.trans (hb.mono Cq.out.size)
        clear hb
        go_wp2_with fail
        refine hK.out _ _ Ct.out (fun hHeld => ?_)
        clear hK K
        refine wpAnyH_take (i := 20) (v := ?vk0_19) rfl (by kernel_rfl) (by kernel_rfl) (by kernel_rfl) (fun _ _ _ h => h) (Or.inl ⟨by kernel_rfl, ?yk0_19⟩) (by assumption) ?rk0_19
        case yk0_19 => (intro w hSw; (try dsimp only at hSw); go_simp; (try with_reducible rfl))
        try simp only [Act.put, List.getElem_toArray, List.getElem_cons_zero, List.getElem_cons_succ, List.setIfInBounds_toArray, List.set_cons_zero, List.set_cons_succ]
        refine wpAnyH_take (i := 21) (v := ?vk0_20) rfl (by kernel_rfl) (by kernel_rfl) (by kernel_rfl) (fun _ _ _ h => h) (Or.inl ⟨by kernel_rfl, ?yk0_20⟩) (by assumption) ?rk0_20
        case yk0_20 => (intro w hSw; (try dsimp only at hSw); go_simp; (try with_reducible rfl))
        try simp only [Act.put, List.getElem_toArray, List.getElem_cons_zero, List.getElem_cons_succ, List.setIfInBounds_toArray, List.set_cons_zero, List.set_cons_succ]
        refine wpAnyH_take (i := 22) (v := ?vk0_21) rfl (by kernel_rfl) (by kernel_rfl) (by kernel_rfl) (fun _ _ _ h => h) (Or.inl ⟨by kernel_rfl, ?yk0_21⟩) (by assumption) ?rk0_21
        case yk0_21 => (intro w hSw; (try dsimp only at hSw); go_simp; (try with_reducible rfl))
        try simp only [Act.put, List.getElem_toArray, List.getElem_cons_zero, List.getElem_cons_succ, List.setIfInBounds_toArray, List.set_cons_zero, List.set_cons_succ]
        refine wpAnyH_done (by kernel_rfl) ?_ _
        have Bt : Hid (Below w.heap.size w wt) := Bx.out.trans (Ct.out.mono Bx.out.size)
        clear hHeld
        have K := Lib.hid (readC A2 b c2 wt (HS.out.on Bt.out))
        by_cases hE : rdE b = 0
        · obtain ⟨t1, t2⟩ := wr_rd HS.out.byt hE
          have t3 := (right_sml t1).2
          have t4 : wrE (rdL b) = 0 := if_pos t1
          rw [hE] at K
          have HT : Hid (wrL (rdL b) = b ∧ wrE (rdL b) = 0) := ⟨t2, t4⟩
          clear hE t1 t2 t4
          generalize rdL b = L at *
          go_wp2_with fail
          (with_reducible refine K.out.mono ?_)
          clear K
          rintro e wa ⟨Aa, ca, rfl, g1, g2, g3, hb⟩
          have Ba := Lib.hid (Bt.out.trans (hb.mono Bt.out.size))
          have K := Lib.hid (bytesC Aa L ca wa g3 g1 g2 (by omega))
          rw [HT.out.1, HT.out.2] at K
          clear g1 g2 g3 hb
          go_wp2_with fail
          (with_reducible refine K.out.mono ?_)
          clear K
          rintro e wb ⟨vb, rfl, ho, hb⟩
          have Bb := Lib.hid (Ba.out.trans (hb.mono Ba.out.size))
          have hSb := own_SB ho HS.out.byt
          obtain ⟨Ab, cb, hV, _⟩ := id hSb
          subst hV
          have d1 := hSb.str
          have d2 := (HS.out.on Bb.out).str
          have hss : ((strOfNums b).toList == (strOfNums b).toList) = true := by simp
          generalize strOfNums b = s at *
          clear ho hb hSb
          go_wp2
          go_ret
          exact ⟨rfl, Bb.out⟩
        · have hne : (rdE b != 0) = true := by simpa using hE
          have hL : rdL b = [] := if_neg hE
          rw [hL] at K
          clear hE hL
          generalize rdE b = E at *
          go_wp2_with fail
          (with_reducible refine K.out.mono ?_)
          clear K
          rintro e wa ⟨Aa, ca, rfl, g1, g2, g3, hb⟩
          have Ba := Lib.hid (Bt.out.trans (hb.mono Bt.out.size))
          clear g1 g2 g3 hb
          go_wp2
          go_ret
          exact ⟨rfl, Ba.out⟩
      | false =>
        have he : ((strOfNums (wrL l)).toList == (strOfNums (wrL m)).toList) = false := by rw [hse]; simpa using fun h => of_decide_eq_false hq (hinj.1 h)
        rw [hq] at HSn
        clear hse hinj hq hE hr hrm
        generalize strOfNums (wrL l) = s1 at *
        generalize strOfNums (wrL m) = s2 at *
        generalize wrL l = x1 at *
        generalize wrL m = x2 at *
        go_wp2_with fail
        refine wp_region_held_drew (S := fun w' => Below wx.heap.size wx w') (by kernel_rfl) (Below.refl _ _).drew (fun hHeld => ?_)
        refine wpAnyH_take (i := 0) (v := ?vk1_1) rfl (by kernel_rfl) (by kernel_rfl) (by kernel_rfl) (fun _ _ _ h => h) (Or.inl ⟨by kernel_rfl, ?yk1_1⟩) (by assumption) ?rk1_1
        case yk1_1 => (intro w hSw; (try dsimp only at hSw); go_simp; (try with_reducible rfl))
        try simp only [Act.put, List.getElem_toArray, List.getElem_cons_zero, List.getElem_cons_succ, List.setIfInBounds_toArray, List.set_cons_zero, List.set_cons_succ]
        refine wpAnyH_take (i := 1) (v := ?vk1_2) rfl (by kernel_rfl) (by kernel_rfl) (by kernel_rfl) (fun _ _ _ h => h) (Or.inl ⟨by kernel_rfl, ?yk1_2⟩) (by assumption) ?rk1_2
        case yk1_2 => (intro w hSw; (try dsimp only at hSw); go_simp; (try with_reducible rfl))
        try simp only [Act.put, List.getElem_toArray, List.getElem_cons_zero, List.getElem_cons_succ, List.setIfInBounds_toArray, List.set_cons_zero, List.set_cons_succ]
        refine wpAnyH_take (i := 2) (v := ?vk1_3) rfl (by kernel_rfl) (by kernel_rfl) (by kernel_rfl) (fun _ _ _ h => h) (Or.inl ⟨by kernel_rfl, ?yk1_3⟩) (by assumption) ?rk1_3
        case yk1_3 => (intro w hSw; (try dsimp only at hSw); go_simp; (try with_reducible rfl))
        try simp only [Act.put, List.getElem_toArray, List.getElem_cons_zero, List.getElem_cons_succ, List.setIfInBounds_toArray, List.set_cons_zero, List.set_cons_succ]
        refine wpAnyH_take (i := 3) (v := ?vk1_4) rfl (by kernel_rfl) (by kernel_rfl) (by kernel_rfl) (fun _ _ _ h => h) (Or.inl ⟨by kernel_rfl, ?yk1_4⟩) (by assumption) ?rk1_4
        case yk1_4 => (intro w hSw; (try dsimp only at hSw); go_simp; (try with_reducible rfl))
        try simp only [Act.put, List.getElem_toArray, List.getElem_cons_zero, List.getElem_cons_succ, List.setIfInBounds_toArray, List.set_cons_zero, List.set_cons_succ]
        refine wpAnyH_take (i := 4) (v := ?vk1_5) rfl (by kernel_rfl) (by kernel_rfl) (by kernel_rfl) (fun _ _ _ h => h) (Or.inl ⟨by kernel_rfl, ?yk1_5⟩) (by assumption) ?rk1_5
        case yk1_5 => (intro w hSw; (try dsimp only at hSw); go_simp; (try with_reducible rfl))
        try simp only [Act.put, List.getElem_toArray, List.getElem_cons_zero, List.getElem_cons_succ, List.setIfInBounds_toArray, List.set_cons_zero, List.set_cons_succ]
        refine wpAnyH_ready (rs := [5]) (by kernel_rfl) (by simp) ?_
        refine AllReadyH.cons rfl (fun K hK => ?_) AllReadyH.nil
        go_simp
        (with_reducible refine (HSm.out _ (Below.refl _ _).drew).mono ?_)
        rintro e wq ⟨rfl, hb⟩
        have Cq : Hid (Below wx.heap.size wx wq) := (Below.refl _ _).drew.trans hb
        clear hb
        go_wp2_with fail
        refine hK.out _ _ Cq.out (fun hHeld => ?_)
        clear hK K
        refine wpAnyH_take (i := 6) (v := ?vk1_6) rfl (by kernel_rfl) (by kernel_rfl) (by kernel_rfl) (fun _ _ _ h => h) (Or.inl ⟨by kernel_rfl, ?yk1_6⟩) (by assumption) ?rk1_6
        case yk1_6 => (intro w hSw; (try dsimp only at hSw); go_simp; (try with_reducible rfl))
        try simp only [Act.put, List.getElem_toArray, List.getElem_cons_zero, List.getElem_cons_succ, List.setIfInBounds_toArray, List.set_cons_zero, List.set_cons_succ]
        refine wpAnyH_take (i := 7) (v := ?vk1_7) rfl (by kernel_rfl) (by kernel_rfl) (by kernel_rfl) (fun _ _ _ h => h) (Or.inl ⟨by kernel_rfl, ?yk1_7⟩) (by assumption) ?rk1_7
        case yk1_7 => (intro w hSw; (try dsimp only at hSw); go_simp; (try with_reducible rfl))
        try simp only [Act.put, List.getElem_toArray, List.getElem_cons_zero, List.getElem_cons_succ, List.setIfInBounds_toArray, List.set_cons_zero, List.set_cons_succ]
        refine wpAnyH_take (i := 8) (v := ?vk1_8) rfl (by kernel_rfl) (by kernel_rfl) (by kernel_rfl) (fun _ _ _ h => h) (Or.inl ⟨by kernel_rfl, ?yk1_8⟩) (by assumption) ?rk1_8
        case yk1_8 => (intro w hSw; (try dsimp only at hSw); go_simp; (try with_reducible rfl))
        try simp only [Act.put, List.getElem_toArray, List.getElem_cons_zero, List.getElem_cons_succ, List.setIfInBounds_toArray, List.set_cons_zero, List.set_cons_succ]
        refine wpAnyH_take (i := 9) (v := ?vk1_9) rfl (by kernel_rfl) (by kernel_rfl) (by kernel_rfl) (fun _ _ _ h => h) (Or.inl ⟨by kernel_rfl, ?yk1_9⟩) (by assumption) ?rk1_9
        case yk1_9 => (intro w hSw; (try dsimp only at hSw); go_simp; (try with_reducible rfl))
        try simp only [Act.put, List.getElem_toArray, List.getElem_cons_zero, List.getElem_cons_succ, List.setIfInBounds_toArray, List.set_cons_zero, List.set_cons_succ]
        refine wpAnyH_take (i := 10) (v := ?vk1_10) rfl (by kernel_rfl) (by kernel_rfl) (by kernel_rfl) (fun _ _ _ h => h) (Or.inl ⟨by kernel_rfl, ?yk1_10⟩) (by assumption) ?rk1_10
        case yk1_10 => (intro w hSw; (try dsimp only at hSw); go_simp; (try with_reducible rfl))
        try simp only [Act.put, List.getElem_toArray, List.getElem_cons_zero, List.getElem_cons_succ, List.setIfInBounds_toArray, List.set_cons_zero, List.set_cons_succ]
        refine wpAnyH_take (i := 11) (v := ?vk1_11) rfl (by kernel_rfl) (by kernel_rfl) (by kernel_rfl) (fun _ _ _ h => h) (Or.inl ⟨by kernel_rfl, ?yk1_11⟩) (by assumption) ?rk1_11
        case yk1_11 => (intro w hSw; (try dsimp only at hSw); go_simp; (try with_reducible rfl))
        try simp only [Act.put, List.getElem_toArray, List.getElem_cons_zero, List.getElem_cons_succ, List.setIfInBounds_toArray, List.set_cons_zero, List.set_cons_succ]
        refine wpAnyH_take (i := 12) (v := ?vk1_12) rfl (by kernel_rfl) (by kernel_rfl) (by kernel_rfl) (fun _ _ _ h => h) (Or.inl ⟨by kernel_rfl, ?yk1_12⟩) (by assumption) ?rk1_12
        case yk1_12 => (intro w hSw; (try dsimp only at hSw); go_simp; (try with_reducible rfl))
        try simp only [Act.put, List.getElem_toArray, List.getElem_cons_zero, List.getElem_cons_succ, List.setIfInBounds_toArray, List.set_cons_zero, List.set_cons_succ]
        refine wpAnyH_take (i := 14) (v := ?vk1_13) rfl (by kernel_rfl) (by kernel_rfl) (by kernel_rfl) (fun _ _ _ h => h) (Or.inl ⟨by kernel_rfl, ?yk1_13⟩) (by assumption) ?rk1_13
        case yk1_13 => (intro w hSw; (try dsimp only at hSw); go_simp; (try with_reducible rfl))
        try simp only [Act.put, List.getElem_toArray, List.getElem_cons_zero, List.getElem_cons_succ, List.setIfInBounds_toArray, List.set_cons_zero, List.set_cons_succ]
        refine wpAnyH_take (i := 13) (v := ?vk1_14) rfl (by kernel_rfl) (by kernel_rfl) (by kernel_rfl) (fun _ _ _ h => h) (Or.inl ⟨by kernel_rfl, ?yk1_14⟩) (by assumption) ?rk1_14
        case yk1_14 => (intro w hSw; (try dsimp only at hSw); have qc := HD1.out _ hSw; go_simp; (try with_reducible rfl))
        try simp only [Act.put, List.getElem_toArray, List.getElem_cons_zero, List.getElem_cons_succ, List.setIfInBounds_toArray, List.set_cons_zero, List.set_cons_succ]
        refine wpAnyH_take (i := 15) (v := ?vk1_15) rfl (by kernel_rfl) (by kernel_rfl) (by kernel_rfl) (fun _ _ _ h => h) (Or.inl ⟨by kernel_rfl, ?yk1_15⟩) (by assumption) ?rk1_15
        case yk1_15 => (intro w hSw; (try dsimp only at hSw); have qc := HD2.out _ hSw; go_simp; (try with_reducible rfl))
        try simp only [Act.put, List.getElem_toArray, List.getElem_cons_zero, List.getElem_cons_succ, List.setIfInBounds_toArray, List.set_cons_zero, List.set_cons_succ]
        refine wpAnyH_take (i := 16) (v := ?vk1_16) rfl (by kernel_rfl) (by kernel_rfl) (by kernel_rfl) (fun _ _ _ h => h) (Or.inl ⟨by kernel_rfl, ?yk1_16⟩) (by assumption) ?rk1_16
        case yk1_16 => (intro w hSw; (try dsimp only at hSw); go_simp; (try with_reducible rfl))
        try simp only [Act.put, List.getElem_toArray, List.getElem_cons_zero, List.getElem_cons_succ, List.setIfInBounds_toArray, List.set_cons_zero, List.set_cons_succ]
        refine wpAnyH_take (i := 17) (v := ?vk1_17) rfl (by kernel_rfl) (by kernel_rfl) (by kernel_rfl) (fun _ _ _ h => h) (Or.inl ⟨by kernel_rfl, ?yk1_17⟩) (by assumption) ?rk1_17
        case yk1_17 => (intro w hSw; (try dsimp only at hSw); go_simp; (try with_reducible rfl))
        try simp only [Act.put, List.getElem_toArray, List.getElem_cons_zero, List.getElem_cons_succ, List.setIfInBounds_toArray, List.set_cons_zero, List.set_cons_succ]
        refine wpAnyH_take (i := 18) (v := ?vk1_18) rfl (by kernel_rfl) (by kernel_rfl) (by kernel_rfl) (fun _ _ _ h => h) (Or.inl ⟨by kernel_rfl, ?yk1_18⟩) (by assumption) ?rk1_18
        case yk1_18 => (intro w hSw; (try dsimp only at hSw); go_simp; (try with_reducible rfl))
        try simp only [Act.put, List.getElem_toArray, List.getElem_cons_zero, List.getElem_cons_succ, List.setIfInBounds_toArray, List.set_cons_zero, List.set_cons_succ]
        refine wpAnyH_ready (rs := [19]) (by kernel_rfl) (by simp) ?_
        refine AllReadyH.cons rfl (fun K hK => ?_) AllReadyH.nil
        go_simp
        (with_reducible refine (HSn.out _ Cq.out).mono ?_)
        rintro e wt ⟨rfl, hb⟩
        have Ct : Hid (Below wx.heap.size wx wt) := Cq.out.trans (hb.mono Cq.out.size)
        clear hb
        go_wp2_with fail
        refine hK.out _ _ Ct.out (fun hHeld => ?_)
        clear hK K
        refine wpAnyH_take (i := 20) (v := ?vk1_19) rfl (by kernel_rfl) (by kernel_rfl) (by kernel_rfl) (fun _ _ _ h => h) (Or.inl ⟨by kernel_rfl, ?yk1_19⟩) (by assumption) ?rk1_19
        case yk1_19 => (intro w hSw; (try dsimp only at hSw); go_simp; (try with_reducible rfl))
        try simp only [Act.put, List.getElem_toArray, List.getElem_cons_zero, List.getElem_cons_succ, List.setIfInBounds_toArray, List.set_cons_zero, List.set_cons_succ]
        refine wpAnyH_take (i := 21) (v := ?vk1_20) rfl (by kernel_rfl) (by kernel_rfl) (by kernel_rfl) (fun _ _ _ h => h) (Or.inl ⟨by kernel_rfl, ?yk1_20⟩) (by assumption) ?rk1_20
        case yk1_20 => (intro w hSw; (try dsimp only at hSw); go_simp; (try with_reducible rfl))
        try simp only [Act.put, List.getElem_toArray, List.getElem_cons_zero, List.getElem_cons_succ, List.setIfInBounds_toArray, List.set_cons_zero, List.set_cons_succ]
        refine wpAnyH_take (i := 22) (v := ?vk1_21) rfl (by kernel_rfl) (by kernel_rfl) (by kernel_rfl) (fun _ _ _ h => h) (Or.inl ⟨by kernel_rfl, ?yk1_21⟩) (by assumption) ?rk1_21
        case yk1_21 => (intro w hSw; (try dsimp only at hSw); go_simp; (try with_reducible rfl))
        try simp only [Act.put, List.getElem_toArray, List.getElem_cons_zero, List.getElem_cons_succ, List.setIfInBounds_toArray, List.set_cons_zero, List.set_cons_succ]
        refine wpAnyH_done (by kernel_rfl) ?_ _
        have Bt : Hid (Below w.heap.size w wt) := Bx.out.trans (Ct.out.mono Bx.out.size)
        clear hHeld
        have K := Lib.hid (readC A2 b c2 wt (HS.out.on Bt.out))
        by_cases hE : rdE b = 0
        · obtain ⟨t1, t2⟩ := wr_rd HS.out.byt hE
          have t3 := (right_sml t1).2
          have t4 : wrE (rdL b) = 0 := if_pos t1
          rw [hE] at K
          have HT : Hid (wrL (rdL b) = b ∧ wrE (rdL b) = 0) := ⟨t2, t4⟩
          clear hE t1 t2 t4
          generalize rdL b = L at *
          go_wp2_with fail
          (with_reducible refine K.out.mono ?_)
          clear K
          rintro e wa ⟨Aa, ca, rfl, g1, g2, g3, hb⟩
          have Ba := Lib.hid (Bt.out.trans (hb.mono Bt.out.size))
          have K := Lib.hid (bytesC Aa L ca wa g3 g1 g2 (by omega))
          rw [HT.out.1, HT.out.2] at K
          clear g1 g2 g3 hb
          go_wp2_with fail
          (with_reducible refine K.out.mono ?_)
          clear K
          rintro e wb ⟨vb, rfl, ho, hb⟩
          have Bb := Lib.hid (Ba.out.trans (hb.mono Ba.out.size))
          have hSb := own_SB ho HS.out.byt
          obtain ⟨Ab, cb, hV, _⟩ := id hSb
          subst hV
          have d1 := hSb.str
          have d2 := (HS.out.on Bb.out).str
          have hss : ((strOfNums b).toList == (strOfNums b).toList) = true := by simp
          generalize strOfNums b = s at *
          clear ho hb hSb
          go_wp2
          go_ret
          exact ⟨rfl, Bb.out⟩
        · have hne : (rdE b != 0) = true := by simpa using hE
          have hL : rdL b = [] := if_neg hE
          rw [hL] at K
          clear hE hL
          generalize rdE b = E at *
          go_wp2_with fail
          (with_reducible refine K.out.mono ?_)
          clear K
          rintro e wa ⟨Aa, ca, rfl, g1, g2, g3, hb⟩
          have Ba := Lib.hid (Bt.out.trans (hb.mono Bt.out.size))
          clear g1 g2 g3 hb
          go_wp2
          go_ret
          exact ⟨rfl, Ba.out⟩
    · have hE : wrE m = 1 := if_neg hrm
      rw [hE]
      clear hE hr hrm
      generalize wrL l = x1 at *
      generalize wrL m = x2 at *
      go_wp2_with fail
      refine wp_region_held_drew (S := fun w' => Below wx.heap.size wx w') (by kernel_rfl) (Below.refl _ _).drew (fun hHeld => ?_)
      refine wpAnyH_take (i := 0) (v := ?vk2_1) rfl (by kernel_rfl) (by kernel_rfl) (by kernel_rfl) (fun _ _ _ h => h) (Or.inl ⟨by kernel_rfl, ?yk2_1⟩) (by assumption) ?rk2_1
      case yk2_1 => (intro w hSw; (try dsimp only at hSw); go_simp; (try with_reducible rfl))
      try simp only [Act.put, List.getElem_toArray, List.getElem_cons_zero, List.getElem_cons_succ, List.setIfInBounds_toArray, List.set_cons_zero, List.set_cons_succ]
      refine wpAnyH_take (i := 1) (v := ?vk2_2) rfl (by kernel_rfl) (by kernel_rfl) (by kernel_rfl) (fun _ _ _ h => h) (Or.inl ⟨by kernel_rfl, ?yk2_2⟩) (by assumption) ?rk2_2
      case yk2_2 => (intro w hSw; (try dsimp only at hSw); go_simp; (try with_reducible rfl))
      try simp only [Act.put, List.getElem_toArray, List.getElem_cons_zero, List.getElem_cons_succ, List.setIfInBounds_toArray, List.set_cons_zero, List.set_cons_succ]
      refine wpAnyH_take (i := 2) (v := ?vk2_3) rfl (by kernel_rfl) (by kernel_rfl) (by kernel_rfl) (fun _ _ _ h => h) (Or.inl ⟨by kernel_rfl, ?yk2_3⟩) (by assumption) ?rk2_3
      case yk2_3 => (intro w hSw; (try dsimp only at hSw); go_simp; (try with_reducible rfl))
      try simp only [Act.put, List.getElem_toArray, List.getElem_cons_zero, List.getElem_cons_succ, List.setIfInBounds_toArray, List.set_cons_zero, List.set_cons_succ]
      refine wpAnyH_take (i := 3) (v := ?vk2_4) rfl (by kernel_rfl) (by kernel_rfl) (by kernel_rfl) (fun _ _ _ h => h) (Or.inl ⟨by kernel_rfl, ?yk2_4⟩) (by assumption) ?rk2_4
      case yk2_4 => (intro w hSw; (try dsimp only at hSw); go_simp; (try with_reducible rfl))
      try simp only [Act.put, List.getElem_toArray, List.getElem_cons_zero, List.getElem_cons_succ, List.setIfInBounds_toArray, List.set_cons_zero, List.set_cons_succ]
      refine wpAnyH_take (i := 4) (v := ?vk2_5) rfl (by kernel_rfl) (by kernel_rfl) (by kernel_rfl) (fun _ _ _ h => h) (Or.inl ⟨by kernel_rfl, ?yk2_5⟩) (by assumption) ?rk2_5
      case yk2_5 => (intro w hSw; (try dsimp only at hSw); go_simp; (try with_reducible rfl))
      try simp only [Act.put, List.getElem_toArray, List.getElem_cons_zero, List.getElem_cons_succ, List.setIfInBounds_toArray, List.set_cons_zero, List.set_cons_succ]
      refine wpAnyH_ready (rs := [5]) (by kernel_rfl) (by simp) ?_
      refine AllReadyH.cons rfl (fun K hK => ?_) AllReadyH.nil
      go_simp
      (with_reducible refine (HSm.out _ (Below.refl _ _).drew).mono ?_)
      rintro e wq ⟨rfl, hb⟩
      have Cq : Hid (Below wx.heap.size wx wq) := (Below.refl _ _).drew.trans hb
      clear hb
      go_wp2_with fail
      refine hK.out _ _ Cq.out (fun hHeld => ?_)
      clear hK K
      refine wpAnyH_take (i := 6) (v := ?vk2_6) rfl (by kernel_rfl) (by kernel_rfl) (by kernel_rfl) (fun _ _ _ h => h) (Or.inl ⟨by kernel_rfl, ?yk2_6⟩) (by assumption) ?rk2_6
      case yk2_6 => (intro w hSw; (try dsimp only at hSw); go_simp; (try with_reducible rfl))
      try simp only [Act.put, List.getElem_toArray, List.getElem_cons_zero, List.getElem_cons_succ, List.setIfInBounds_toArray, List.set_cons_zero, List.set_cons_succ]
      refine wpAnyH_take (i := 7) (v := ?vk2_7) rfl (by kernel_rfl) (by kernel_rfl) (by kernel_rfl) (fun _ _ _ h => h) (Or.inl ⟨by kernel_rfl, ?yk2_7⟩) (by assumption) ?rk2_7
      case yk2_7 => (intro w hSw; (try dsimp only at hSw); go_simp; (try with_reducible rfl))
      try simp only [Act.put, List.getElem_toArray, List.getElem_cons_zero, List.getElem_cons_succ, List.setIfInBounds_toArray, List.set_cons_zero, List.set_cons_succ]
      refine wpAnyH_take (i := 8) (v := ?vk2_8) rfl (by kernel_rfl) (by kernel_rfl) (by kernel_rfl) (fun _ _ _ h => h) (Or.inl ⟨by kernel_rfl, ?yk2_8⟩) (by assumption) ?rk2_8
      case yk2_8 => (intro w hSw; (try dsimp only at hSw); go_simp; (try with_reducible rfl))
      try simp only [Act.put, List.getElem_toArray, List.getElem_cons_zero, List.getElem_cons_succ, List.setIfInBounds_toArray, List.set_cons_zero, List.set_cons_succ]
      refine wpAnyH_take (i := 9) (v := ?vk2_9) rfl (by kernel_rfl) (by kernel_rfl) (by kernel_rfl) (fun _ _ _ h => h) (Or.inl ⟨by kernel_rfl, ?yk2_9⟩) (by assumption) ?rk2_9
      case yk2_9 => (intro w hSw; (try dsimp only at hSw); go_simp; (try with_reducible rfl))
      try simp only [Act.put, List.getElem_toArray, List.getElem_cons_zero, List.getElem_cons_succ, List.setIfInBounds_toArray, List.set_cons_zero, List.set_cons_succ]
      refine wpAnyH_take (i := 10) (v := ?vk2_10) rfl (by kernel_rfl) (by kernel_rfl) (by kernel_rfl) (fun _ _ _ h => h) (Or.inl ⟨by kernel_rfl, ?yk2_10⟩) (by assumption) ?rk2_10
      case yk2_10 => (intro w hSw; (try dsimp only at hSw); go_simp; (try with_reducible rfl))
      try simp only [Act.put, List.getElem_toArray, List.getElem_cons_zero, List.getElem_cons_succ, List.setIfInBounds_toArray, List.set_cons_zero, List.set_cons_succ]
      refine wpAnyH_take (i := 11) (v := ?vk2_11) rfl (by kernel_rfl) (by kernel_rfl) (by kernel_rfl) (fun _ _ _ h => h) (Or.inl ⟨by kernel_rfl, ?yk2_11⟩) (by assumption) ?rk2_11
      case yk2_11 => (intro w hSw; (try dsimp only at hSw); go_simp; (try with_reducible rfl))
      try simp only [Act.put, List.getElem_toArray, List.getElem_cons_zero, List.getElem_cons_succ, List.setIfInBounds_toArray, List.set_cons_zero, List.set_cons_succ]
      refine wpAnyH_take (i := 12) (v := undef) rfl (by kernel_rfl) (by kernel_rfl) (by kernel_rfl) (fun _ _ _ h => h) (Or.inr ⟨by kernel_rfl, rfl⟩) (by assumption) ?rk2_12
      try simp only [Act.put, List.getElem_toArray, List.getElem_cons_zero, List.getElem_cons_succ, List.setIfInBounds_toArray, List.set_cons_zero, List.set_cons_succ]
      refine wpAnyH_take (i := 13) (v := undef) rfl (by kernel_rfl) (by kernel_rfl) (by kernel_rfl) (fun _ _ _ h => h) (Or.inr ⟨by kernel_rfl, rfl⟩) (by assumption) ?rk2_13
      try simp only [Act.put, List.getElem_toArray, List.getElem_cons_zero, List.getElem_cons_succ, List.setIfInBounds_toArray, List.set_cons_zero, List.set_cons_succ]
      refine wpAnyH_take (i := 14) (v := undef) rfl (by kernel_rfl) (by kernel_rfl) (by kernel_rfl) (fun _ _ _ h => h) (Or.inr ⟨by kernel_rfl, rfl⟩) (by assumption) ?rk2_14
      try simp only [Act.put, List.getElem_toArray, List.getElem_cons_zero, List.getElem_cons_succ, List.setIfInBounds_toArray, List.set_cons_zero, List.set_cons_succ]
      refine wpAnyH_take (i := 15) (v := undef) rfl (by kernel_rfl) (by kernel_rfl) (by kernel_rfl) (fun _ _ _ h => h) (Or.inr ⟨by kernel_rfl, rfl⟩) (by assumption) ?rk2_15
      try simp only [Act.put, List.getElem_toArray, List.getElem_cons_zero, List.getElem_cons_succ, List.setIfInBounds_toArray, List.set_cons_zero, List.set_cons_succ]
      refine wpAnyH_take (i := 16) (v := undef) rfl (by kernel_rfl) (by kernel_rfl) (by kernel_rfl) (fun _ _ _ h => h) (Or.inr ⟨by kernel_rfl, rfl⟩) (by assumption) ?rk2_16
      try simp only [Act.put, List.getElem_toArray, List.getElem_cons_zero, List.getElem_cons_succ, List.setIfInBounds_toArray, List.set_cons_zero, List.set_cons_succ]
      refine wpAnyH_take (i := 17) (v := undef) rfl (by kernel_rfl) (by kernel_rfl) (by kernel_rfl) (fun _ _ _ h => h) (Or.inr ⟨by kernel_rfl, rfl⟩) (by assumption) ?rk2_17
      try simp only [Act.put, List.getElem_toArray, List.getElem_cons_zero, List.getElem_cons_succ, List.setIfInBounds_toArray, List.set_cons_zero, List.set_cons_succ]
      refine wpAnyH_take (i := 18) (v := undef) rfl (by kernel_rfl) (by kernel_rfl) (by kernel_rfl) (fun _ _ _ h => h) (Or.inr ⟨by kernel_rfl, rfl⟩) (by assumption) ?rk2_18
      try simp only [Act.put, List.getElem_toArray, List.getElem_cons_zero, List.getElem_cons_succ, List.setIfInBounds_toArray, List.set_cons_zero, List.set_cons_succ]
      refine wpAnyH_take (i := 19) (v := undef) rfl (by kernel_rfl) (by kernel_rfl) (by kernel_rfl) (fun _ _ _ h => h) (Or.inr ⟨by kernel_rfl, rfl⟩) (by assumption) ?rk2_19
      try simp only [Act.put, List.getElem_toArray, List.getElem_cons_zero, List.getElem_cons_succ, List.setIfInBounds_toArray, List.set_cons_zero, List.set_cons_succ]
      refine wpAnyH_take (i := 20) (v := undef) rfl (by kernel_rfl) (by kernel_rfl) (by kernel_rfl) (fun _ _ _ h => h) (Or.inr ⟨by kernel_rfl, rfl⟩) (by assumption) ?rk2_20
      try simp only [Act.put, List.getElem_toArray, List.getElem_cons_zero, List.getElem_cons_succ, List.setIfInBounds_toArray, List.set_cons_zero, List.set_cons_succ]
      refine wpAnyH_take (i := 21) (v := ?vk2_21) rfl (by kernel_rfl) (by kernel_rfl) (by kernel_rfl) (fun _ _ _ h => h) (Or.inl ⟨by kernel_rfl, ?yk2_21⟩) (by assumption) ?rk2_21
      case yk2_21 => (intro w hSw; (try dsimp only at hSw); go_simp; (try with_reducible rfl))
      try simp only [Act.put, List.getElem_toArray, List.getElem_cons_zero, List.getElem_cons_succ, List.setIfInBounds_toArray, List.set_cons_zero, List.set_cons_succ]
      refine wpAnyH_take (i := 22) (v := ?vk2_22) rfl (by kernel_rfl) (by kernel_rfl) (by kernel_rfl) (fun _ _ _ h => h) (Or.inl ⟨by kernel_rfl, ?yk2_22⟩) (by assumption) ?rk2_22
      case yk2_22 => (intro w hSw; (try dsimp only at hSw); go_simp; (try with_reducible rfl))
      try simp only [Act.put, List.getElem_toArray, List.getElem_cons_zero, List.getElem_cons_succ, List.setIfInBounds_toArray, List.set_cons_zero, List.set_cons_succ]
      refine wpAnyH_done (by kernel_rfl) ?_ _
      have Bt : Hid (Below w.heap.size w wq) := Bx.out.trans (Cq.out.mono Bx.out.size)
      clear hHeld
      generalize wq = wt at *
      have K := Lib.hid (readC A2 b c2 wt (HS.out.on Bt.out))
      by_cases hE : rdE b = 0
      · obtain ⟨t1, t2⟩ := wr_rd HS.out.byt hE
        have t3 := (right_sml t1).2
        have t4 : wrE (rdL b) = 0 := if_pos t1
        rw [hE] at K
        have HT : Hid (wrL (rdL b) = b ∧ wrE (rdL b) = 0) := ⟨t2, t4⟩
        clear hE t1 t2 t4
        generalize rdL b = L at *
        go_wp2_with fail
        (with_reducible refine K.out.mono ?_)
        clear K
        rintro e wa ⟨Aa, ca, rfl, g1, g2, g3, hb⟩
        have Ba := Lib.hid (Bt.out.trans (hb.mono Bt.out.size))
        have K := Lib.hid (bytesC Aa L ca wa g3 g1 g2 (by omega))
        rw [HT.out.1, HT.out.2] at K
        clear g1 g2 g3 hb
        go_wp2_with fail
        (with_reducible refine K.out.mono ?_)
        clear K
        rintro e wb ⟨vb, rfl, ho, hb⟩
        have Bb := Lib.hid (Ba.out.trans (hb.mono Ba.out.size))
        have hSb := own_SB ho HS.out.byt
        obtain ⟨Ab, cb, hV, _⟩ := id hSb
        subst hV
        have d1 := hSb.str
        have d2 := (HS.out.on Bb.out).str
        have hss : ((strOfNums b).toList == (strOfNums b).toList) = true := by simp
        generalize strOfNums b = s at *
        clear ho hb hSb
        go_wp2
        go_ret
        exact ⟨rfl, Bb.out⟩
      · have hne : (rdE b != 0) = true := by simpa using hE
        have hL : rdL b = [] := if_neg hE
        rw [hL] at K
        clear hE hL
        generalize rdE b = E at *
        go_wp2_with fail
        (with_reducible refine K.out.mono ?_)
        clear K
        rintro e wa ⟨Aa, ca, rfl, g1, g2, g3, hb⟩
        have Ba := Lib.hid (Bt.out.trans (hb.mono Bt.out.size))
        clear g1 g2 g3 hb
        go_wp2
        go_ret
        exact ⟨rfl, Ba.out⟩
  · have hd : decide (RightM l) = false := by simpa using hr
    have hE : wrE l = 1 := if_neg hr
    rw [hd] at K
    rw [hE]
    clear hd hE hr
    generalize wrL l = x1 at *
    generalize wrL m = x2 at *
    generalize wrE m = E2 at *
    go_wp2_with fail
    (with_reducible refine K.out.mono ?_)
    clear K
    rintro e wt ⟨rfl, hb⟩
    have Bt := Lib.hid (B5.out.trans (hb.mono B5.out.size))
    clear hb
    have K := Lib.hid (readC A2 b c2 wt (HS.out.on Bt.out))
    by_cases hE : rdE b = 0
    · obtain ⟨t1, t2⟩ := wr_rd HS.out.byt hE
      have t3 := (right_sml t1).2
      have t4 : wrE (rdL b) = 0 := if_pos t1
      rw [hE] at K
      have HT : Hid (wrL (rdL b) = b ∧ wrE (rdL b) = 0) := ⟨t2, t4⟩
      clear hE t1 t2 t4
      generalize rdL b = L at *
      go_wp2_with fail
      (with_reducible refine K.out.mono ?_)
      clear K
      rintro e wa ⟨Aa, ca, rfl, g1, g2, g3, hb⟩
      have Ba := Lib.hid (Bt.out.trans (hb.mono Bt.out.size))
      have K := Lib.hid (bytesC Aa L ca wa g3 g1 g2 (by omega))
      rw [HT.out.1, HT.out.2] at K
      clear g1 g2 g3 hb
      go_wp2_with fail
      (with_reducible refine K.out.mono ?_)
      clear K
      rintro e wb ⟨vb, rfl, ho, hb⟩
      have Bb := Lib.hid (Ba.out.trans (hb.mono Ba.out.size))
      have hSb := own_SB ho HS.out.byt
      obtain ⟨Ab, cb, hV, _⟩ := id hSb
      subst hV
      have d1 := hSb.str
      have d2 := (HS.out.on Bb.out).str
      have hss : ((strOfNums b).toList == (strOfNums b).toList) = true := by simp
      generalize strOfNums b = s at *
      clear ho hb hSb
      go_wp2
      go_ret
      exact ⟨rfl, Bb.out⟩
    · have hne : (rdE b != 0) = true := by simpa using hE
      have hL : rdL b = [] := if_neg hE
      rw [hL] at K
      clear hE hL
      generalize rdE b = E at *
      go_wp2_with fail
      (with_reducible refine K.out.mono ?_)
      clear K
      rintro e wa ⟨Aa, ca, rfl, g1, g2, g3, hb⟩
      have Ba := Lib.hid (Bt.out.trans (hb.mono Bt.out.size))
      clear g1 g2 g3 hb
      go_wp2
      go_ret
      exact ⟨rfl, Ba.out⟩
end Go.Proofs.Ytfcoccmbabmihaa
