/- The walk of JournalBack, behind its calls. Conditions: what came in lies in memory. -/
import Derived.Test.YtncbbjodianmoaaWd
namespace Go.Proofs.Ytncbbjodianmoaa
open Go.RowKit
set_option linter.unusedSimpArgs false
set_option linter.unusedVariables false

set_option maxRecDepth 100000 in
set_option maxHeartbeats 6400000 in
theorem backC (W : World) (A : Option Addr) (ls : List PR) (c : Nat) (hp : Prs W W.heap.size A c ls) (hc : ls.length ≤ c) (hm : c ≤ maxLen) (hl : ls.length ≤ 2932031007402) (Ao : Option Addr) (ops : List OpT) (co : Nat) (ho : OpsB W W.heap.size Ao ops) (hco : ops.length ≤ co) (hmo : co ≤ maxLen)
    (Am : Option Addr) (more : List OpT) (cm : Nat) (hom : OpsB W W.heap.size Am more) (hcm : more.length ≤ cm) (hmm : cm ≤ maxLen) :
    Calls Try.prog 4 #[.slice A ls.length c, .slice Ao ops.length co, .slice Am more.length cm] W fun e w' => e = .returned (.bool true) ∧ Below W.heap.size W w' := by
  have HP := Lib.hid hp
  have HO := Lib.hid ho
  have HOM := Lib.hid hom
  have K0 := Lib.hid (headC W)
  have hm' := hm
  have hmo' := hmo
  have hmm' := hmm
  clear hp ho hom
  unfold maxLen at hm hmo hmm
  by_cases hr : RightM ls
  · go_enter Try.func4, Try.ntmps4
    go_wp2_with fail
    (with_reducible refine K0.out.mono ?_)
    rintro e w1 ⟨rfl, hb1⟩
    have HB1 := Lib.hid hb1
    have K1 := Lib.hid (newC A ls c w1 (HP.out.on hb1) hc hm' hl hr)
    clear hb1
    go_wp2_with fail
    (with_reducible refine K1.out.mono ?_)
    rintro e w2 h
    obtain ⟨J, rfl, hJ, hj, hb2⟩ := h.jr (n0 := W.heap.size) hr HB1.out.size
    have HB2 := Lib.hid (HB1.out.trans (hb2.mono HB1.out.size))
    have hba := below_alloc w2 (.cells #[.pointer (some ⟨J, 0, none⟩)] 25)
    have HJ := Lib.hid (hj.on hba)
    have HBX : Hid (BoxJ (w2.alloc (.cells #[.pointer (some ⟨J, 0, none⟩)] 25)) w2.heap.size J) := heap_alloc_new w2 _
    have HBa := Lib.hid (HB2.out.trans (hba.mono HB2.out.size))
    clear h hj hb2 hba K0 K1
    by_cases hg : 300 < ops.length
    · go_wp2_with (go_at_call 11; refine (greatC _ _ _ _ hg).mono ?_; rintro e w3 ⟨rfl, rfl⟩)
      go_ret
      exact ⟨rfl, HBa.out⟩
    · have hs : ops.length ≤ 300 := by omega
      by_cases hg2 : 300 < more.length
      · clear hg
        go_wp2_with (go_at_call 11; first | (refine (smallC _ _ _ _ hs).mono ?_; rintro e w3 ⟨rfl, rfl⟩; clear hs) | (refine (greatC _ _ _ _ hg2).mono ?_; rintro e w3 ⟨rfl, rfl⟩))
        go_ret
        exact ⟨rfl, HBa.out⟩
      · have hs2 : more.length ≤ 300 := by omega
        clear hg hg2
        have HSA := Lib.hid hs
        have HSB := Lib.hid hs2
        have K3 := Lib.hid (doC W.heap.size _ J w2.heap.size [] ls HJ.out HBX.out Ao ops co (HO.out.below HBa.out) HBa.out.size hco hmo' hs (by simp))
        go_wp2_with (go_at_call 11; first | (refine (smallC _ _ _ _ hs).mono ?_; rintro e w3 ⟨rfl, rfl⟩; clear hs) | (refine (smallC _ _ _ _ hs2).mono ?_; rintro e w3 ⟨rfl, rfl⟩))
        (with_reducible refine K3.out.mono ?_)
        rintro e w3 ⟨rfl, o3, hs3, cur3, j3, p3, l3⟩
        have HJ3 := Lib.hid j3
        have HB3 := Lib.hid (HBX.out.off o3)
        have HO3 := Lib.hid (HBa.out.trans (o3.below HBa.out.size))
        have HP3 := Lib.hid p3
        have hl3 : hs3.length ≤ 300 := by have := HSA.out; simp at l3; omega
        have KM := Lib.hid (markC _ _ J _ _ j3)
        have KP := Lib.hid (pairsC _ _ J _ _ j3)
        have hx3 := HB3.out.cell
        clear o3 j3 p3 l3 K3 HJ HBX HBa HB2 HB1
        go_wp2_with (go_at_call 20; (with_reducible refine KM.out.mono ?_); rintro e w4 ⟨rfl, rfl⟩)
        (with_reducible refine KP.out.mono ?_)
        rintro e w4 h4
        obtain ⟨A4, c4, rfl, g1, g2, g3, g4, g5⟩ := h4.f
        have HW4 : Hid (cur3.length ≤ c4 ∧ c4 ≤ maxLen ∧ PrsX W.heap.size w4 A4 c4 cur3) := ⟨g1, g2, g3.here, g4.off⟩
        have HJ4 := Lib.hid (HJ3.out.on g5)
        have HB4 := Lib.hid (HB3.out.off (n0 := W.heap.size) (.of g5))
        have HO4 := Lib.hid (HO3.out.trans (g5.mono HO3.out.size))
        have K5 := Lib.hid (doC W.heap.size w4 J w2.heap.size hs3 cur3 HJ4.out HB4.out Am more cm (HOM.out.below HO4.out) HO4.out.size hcm hmm' HSB.out (by omega))
        clear h4 g1 g2 g3 g4 g5 KM KP HJ3 HB3 HO3 hx3
        go_wp2_with fail
        (with_reducible refine K5.out.mono ?_)
        rintro e w5 ⟨rfl, o5, hs5, cur5, j5, p5, l5⟩
        have HJ5 := Lib.hid j5
        have HB5 := Lib.hid (HB4.out.off o5)
        have HO5 := Lib.hid (HO4.out.trans (o5.below HO4.out.size))
        have HW5 : Hid (cur3.length ≤ c4 ∧ c4 ≤ maxLen ∧ PrsX W.heap.size w5 A4 c4 cur3) := ⟨HW4.out.1, HW4.out.2.1, HW4.out.2.2.off o5⟩
        have hlt5 : hs3.length ≤ hs5.length := by
          have := p5.length_le
          simp at this
          omega
        have hl5 : hs5.length ≤ 600 := by have := HSB.out; omega
        have HM5 : Hid ((hs5 ++ [cur5])[hs3.length]? = some cur3) := by
          obtain ⟨t, ht⟩ := p5
          show _ = _
          rw [← ht, List.append_assoc, List.getElem?_append_right (Nat.le_refl _)]
          simp
        have HZ5 : Hid ((hs5 ++ [cur5])[0]? = some ls ∧ (hs3 ++ [cur3])[0]? = some ls) := by
          have h0 : (hs3 ++ [cur3])[0]? = some ls := by
            obtain ⟨t, ht⟩ := HP3.out
            rw [← ht]
            rfl
          refine ⟨?_, h0⟩
          obtain ⟨t, ht⟩ := p5
          rw [← ht, List.getElem?_append_left (by simp)]
          exact h0
        have KP5 := Lib.hid (pairsC _ _ J _ _ j5)
        have hx5 := HB5.out.cell
        clear o5 j5 p5 l5 K5 HJ4 HB4 HO4 HW4 HP3
        go_wp2_with fail
        (with_reducible refine KP5.out.mono ?_)
        rintro e w6 h6
        obtain ⟨A6, c6, rfl, g1, g2, g3, g4, g5⟩ := h6.f
        have KR : Hid (Calls Try.prog 26 #[.slice A6 cur5.length c6] w6 fun e w' => e = .returned (.bool true) ∧ Below w6.heap.size w6 w') := by
          have hR := HJ5.out.cur
          have := refRightC A6 cur5 c6 w6 g3.here g1 g2 (by have := (right_sml hR).2; omega)
          rw [decide_eq_true hR] at this
          exact this
        have HJ6 := Lib.hid (HJ5.out.on g5)
        have HB6 := Lib.hid (HB5.out.off (n0 := W.heap.size) (.of g5))
        have HO6 := Lib.hid (HO5.out.trans (g5.mono HO5.out.size))
        have HW6 : Hid (cur3.length ≤ c4 ∧ c4 ≤ maxLen ∧ PrsX W.heap.size w6 A4 c4 cur3) := ⟨HW5.out.1, HW5.out.2.1, HW5.out.2.2.on g5⟩
        clear h6 g1 g2 g3 g4 g5 KP5 HJ5 HB5 HO5 HW5 hx5
        go_wp2_with fail
        (with_reducible refine KR.out.mono ?_)
        rintro e w7 ⟨rfl, b7⟩
        have HJ7 := Lib.hid (HJ6.out.on b7)
        have HB7 := Lib.hid (HB6.out.off (n0 := W.heap.size) (.of b7))
        have HO7 := Lib.hid (HO6.out.trans (b7.mono HO6.out.size))
        have HW7 : Hid (cur3.length ≤ c4 ∧ c4 ≤ maxLen ∧ PrsX W.heap.size w7 A4 c4 cur3) := ⟨HW6.out.1, HW6.out.2.1, HW6.out.2.2.on b7⟩
        have KU := Lib.hid (undoC _ _ J _ _ HJ7.out hs3.length hlt5 cur3 HM5.out)
        have hx7 := HB7.out.cell
        clear b7 KR HJ6 HB6 HO6 HW6
        go_wp2_with fail
        (with_reducible refine KU.out.mono ?_)
        rintro e w8 ⟨rfl, o8, _, j8⟩
        have hlt8 : (hs5.take hs3.length).length = hs3.length := by rw [List.length_take]; omega
        have HJ8 := Lib.hid j8
        have HB8 := Lib.hid (HB7.out.off o8)
        have HO8 := Lib.hid (HO7.out.trans (o8.below HO7.out.size))
        have HW8 : Hid (cur3.length ≤ c4 ∧ c4 ≤ maxLen ∧ PrsX W.heap.size w8 A4 c4 cur3) := ⟨HW7.out.1, HW7.out.2.1, HW7.out.2.2.off o8⟩
        have KP8 := Lib.hid (pairsC _ _ J _ _ j8)
        have hx8 := HB8.out.cell
        have HZ8 : Hid ((hs5.take hs3.length ++ [cur3])[0]? = some ls) := by
          show _ = _
          rcases Nat.eq_zero_or_pos hs3.length with h0 | h0
          · have h1 : hs3 = [] := List.eq_nil_of_length_eq_zero h0
            have := HZ5.out.2
            rw [h1] at this ⊢
            simpa using this
          · rw [List.getElem?_append_left (by omega), List.getElem?_take, if_pos h0]
            have := HZ5.out.1
            rwa [List.getElem?_append_left (by omega)] at this
        clear o8 j8 KU HJ7 HB7 HO7 HW7 hx7
        generalize hs5.take hs3.length = hs8 at *
        go_wp2_with fail
        (with_reducible refine KP8.out.mono ?_)
        rintro e w9 h9
        obtain ⟨A9, c9, rfl, g1, g2, g3, g4, g5⟩ := h9.f
        have KS : Hid (Calls Try.prog 22 #[.slice A9 cur3.length c9, .slice A4 cur3.length c4] w9 fun e w' => e = .returned (.bool true) ∧ Below w9.heap.size w9 w') := by
          have := sameC A9 cur3 c9 A4 cur3 c4 w9 g3.here g1 g2 (HW8.out.2.2.on g5).1
          rw [decide_eq_true rfl] at this
          exact this
        have HJ9 := Lib.hid (HJ8.out.on g5)
        have HB9 := Lib.hid (HB8.out.off (n0 := W.heap.size) (.of g5))
        have HO9 := Lib.hid (HO8.out.trans (g5.mono HO8.out.size))
        clear h9 g1 g2 g3 g4 g5 KP8 HJ8 HB8 HO8 HW8 hx8
        go_wp2_with fail
        (with_reducible refine KS.out.mono ?_)
        rintro e wa ⟨rfl, ba⟩
        have HJa := Lib.hid (HJ9.out.on ba)
        have HBa := Lib.hid (HB9.out.off (n0 := W.heap.size) (.of ba))
        have HOa := Lib.hid (HO9.out.trans (ba.mono HO9.out.size))
        have KMa := Lib.hid (markC _ _ J _ _ HJa.out)
        have hxa := HBa.out.cell
        have KB : Hid (Calls Try.prog 16 #[.pointer (some ⟨J, 0, none⟩), .int .i64 ((hs3.length : Int) + 1)] wa fun e w' => e = .returned (.int .i64 1) ∧ Below wa.heap.size wa w') := undoBad _ _ J _ _ HJa.out _ (.inr (by rw [hlt8]; omega))
        rw [hlt8] at KMa
        clear ba KS HJ9 HB9 HO9
        go_wp2_with (go_at_call 20; (with_reducible refine KMa.out.mono ?_); rintro e wb ⟨rfl, rfl⟩)
        (with_reducible refine KB.out.mono ?_)
        rintro e wb ⟨rfl, bb⟩
        have HJb := Lib.hid (HJa.out.on bb)
        have HBb := Lib.hid (HBa.out.off (n0 := W.heap.size) (.of bb))
        have HOb := Lib.hid (HOa.out.trans (bb.mono HOa.out.size))
        have KZ : Hid (Calls Try.prog 16 #[.pointer (some ⟨J, 0, none⟩), .int .i64 0] wb fun e w' => e = .returned (.int .i64 0) ∧ Chd W.heap.size J wb (hs8.take 0) ls w') := undoC _ _ J _ _ HJb.out 0 (Nat.zero_le _) ls HZ8.out
        have hxb := HBb.out.cell
        clear bb KMa KB HJa HBa HOa hxa
        go_wp2_with fail
        (with_reducible refine KZ.out.mono ?_)
        rintro e wc ⟨rfl, oc, _, jc⟩
        have HBc := Lib.hid (HBb.out.off oc)
        have HOc := Lib.hid (HOb.out.trans (oc.below HOb.out.size))
        have KPc := Lib.hid (pairsC _ _ J _ _ jc)
        have hxc := HBc.out.cell
        clear oc jc KZ HJb HBb HOb hxb
        go_wp2_with fail
        (with_reducible refine KPc.out.mono ?_)
        rintro e wd h9
        obtain ⟨Ad, cd, rfl, g1, g2, g3, g4, g5⟩ := h9.f
        have HOd := Lib.hid (HOc.out.trans (g5.mono HOc.out.size))
        have KSd : Hid (Calls Try.prog 22 #[.slice Ad ls.length cd, .slice A ls.length c] wd fun e w' => e = .returned (.bool true) ∧ Below wd.heap.size wd w') := by
          have := sameC Ad ls cd A ls c wd g3.here g1 g2 (HP.out.on HOd.out)
          rw [decide_eq_true rfl] at this
          exact this
        clear h9 g1 g2 g3 g4 g5 KPc hxc
        go_wp2_with fail
        (with_reducible refine KSd.out.mono ?_)
        rintro e we ⟨rfl, be⟩
        have HOe := Lib.hid (HOd.out.trans (be.mono HOd.out.size))
        clear be
        go_wp2
        go_ret
        exact ⟨rfl, HOe.out⟩
  · go_enter Try.func4, Try.ntmps4
    go_wp2_with fail
    (with_reducible refine K0.out.mono ?_)
    rintro e w1 ⟨rfl, hb1⟩
    have HB1 := Lib.hid hb1
    have K1 := Lib.hid (newC_nil A ls c w1 (HP.out.on hb1) hc hm' hl hr)
    clear hb1
    go_wp2_with fail
    (with_reducible refine K1.out.mono ?_)
    rintro e w2 ⟨rfl, hb2⟩
    have HB2 := Lib.hid ((HB1.out.trans (hb2.mono HB1.out.size)).trans ((below_alloc w2 (.cells #[.pointer none] 25)).mono (Nat.le_trans HB1.out.size hb2.size)))
    clear hb2
    go_wp2
    go_ret
    exact ⟨rfl, HB2.out⟩
end Go.Proofs.Ytncbbjodianmoaa
