/- The walk of ArithParts: it returns true, and nothing that was there has changed. Conditions: ints are of 64 bits. -/
import Derived.Test.YtehihpfhcphdoaaH
namespace Go.Proofs.Ytehihpfhcphdoaa
open Go.RowKit
set_option maxRecDepth 100000

/-- what is true of a quotient and a rest -/
theorem parts (a b : Int) (ha : fits a) (hb : fits b) (h0 : b ≠ 0) (hm : ¬(a = -9223372036854775808 ∧ b = -1)) :
    fits (a.tdiv b * b) ∧ a.tdiv b * b + a.tmod b = a ∧ fits (a.tmod b) ∧ (a.tmod b = 0 ∨ (a.tmod b < 0 ↔ a < 0)) ∧ (0 < b → a.tmod b < b ∧ -b < a.tmod b) ∧ (b < 0 → b < a.tmod b ∧ a.tmod b < -b) := by
  have e := Int.mul_tdiv_add_tmod a b
  have r := Int.natAbs_tmod a b
  have r2 := Nat.mod_lt a.natAbs (show 0 < b.natAbs by omega)
  have r3 := Nat.mod_le a.natAbs b.natAbs
  have f := tmod_fits (b := b) ha
  have sg : (0 ≤ a → 0 ≤ a.tmod b) ∧ (a < 0 → a.tmod b ≤ 0) := by
    refine ⟨fun h => Int.tmod_nonneg b h, fun h => ?_⟩
    have := Int.tmod_nonneg b (show 0 ≤ -a by omega)
    rw [Int.neg_tmod] at this
    omega
  rw [Int.mul_comm] at e
  generalize a.tdiv b * b = p at *
  generalize a.tmod b = m at *
  unfold fits at *
  refine ⟨?_, e, f, ?_, ?_, ?_⟩ <;> omega

set_option maxHeartbeats 1600000 in
theorem parts_walk (a b : Int) (w : World) (ha : fits a) (hb : fits b) : Calls Try.prog 4 #[.int .i64 a, .int .i64 b] w fun e w' => e = .returned (.bool true) ∧ Below w.heap.size w w' := by
  have HA := Lib.hid ha
  have HB := Lib.hid hb
  clear ha hb
  by_cases h0 : b = 0
  · have K1 := Lib.hid (fun w => twoI_lit _ _ row_quo a b w HA.out HB.out ⟨0, 0, 2⟩ (if_pos h0))
    have K2 := Lib.hid (fun w => twoI_lit _ _ row_rem a b w HA.out HB.out ⟨0, 0, 2⟩ (if_pos h0))
    have hz : (b == 0) = true := by simpa using h0
    clear h0 HA HB
    go_enter Try.func4, Try.ntmps4
    go_wp2_with fail
    refine (head_true _).mono ?_
    rintro e w1 ⟨rfl, hb1⟩
    go_wp2_with fail
    refine (numC _ _).mono ?_
    rintro e w2 ⟨rfl, hb2⟩
    go_wp2_with fail
    refine (numC _ _).mono ?_
    rintro e w3 ⟨rfl, hb3⟩
    go_wp2_with fail
    refine (K1.out _).mono ?_
    rintro e w4 ⟨rfl, hb4⟩
    have b4 := Lib.hid (bthen (bthen (bthen hb1 hb2) hb3) hb4)
    clear hb1 hb2 hb3 hb4
    go_wp2_with fail
    refine (numC _ _).mono ?_
    rintro e w5 ⟨rfl, hb5⟩
    go_wp2_with fail
    refine (numC _ _).mono ?_
    rintro e w6 ⟨rfl, hb6⟩
    go_wp2_with fail
    refine (K2.out _).mono ?_
    rintro e w7 ⟨rfl, hb7⟩
    have b7 := Lib.hid (bthen (b4.out.alloc b4.out.size (vO 0 0 nilS)) (bthen (bthen hb5 hb6) hb7))
    clear hb5 hb6 hb7
    go_wp2
    go_ret
    exact ⟨rfl, b7.out.alloc b7.out.size _⟩
  · have hz : (b == 0) = false := by simpa using h0
    by_cases hm : a = -9223372036854775808 ∧ b = -1
    · have K1 := Lib.hid (fun w => twoI_lit _ _ row_quo a b w HA.out HB.out ⟨0, 0, 3⟩ (by unfold divAns; rw [if_neg h0, if_pos hm]))
      have K2 := Lib.hid (fun w => twoI_lit _ _ row_rem a b w HA.out HB.out ⟨0, 0, 3⟩ (by unfold divAns; rw [if_neg h0, if_pos hm]))
      clear h0 hm HA HB
      go_enter Try.func4, Try.ntmps4
      go_wp2_with fail
      refine (head_true _).mono ?_
      rintro e w1 ⟨rfl, hb1⟩
      go_wp2_with fail
      refine (numC _ _).mono ?_
      rintro e w2 ⟨rfl, hb2⟩
      go_wp2_with fail
      refine (numC _ _).mono ?_
      rintro e w3 ⟨rfl, hb3⟩
      go_wp2_with fail
      refine (K1.out _).mono ?_
      rintro e w4 ⟨rfl, hb4⟩
      have b4 := Lib.hid (bthen (bthen (bthen hb1 hb2) hb3) hb4)
      clear hb1 hb2 hb3 hb4
      go_wp2_with fail
      refine (numC _ _).mono ?_
      rintro e w5 ⟨rfl, hb5⟩
      go_wp2_with fail
      refine (numC _ _).mono ?_
      rintro e w6 ⟨rfl, hb6⟩
      go_wp2_with fail
      refine (K2.out _).mono ?_
      rintro e w7 ⟨rfl, hb7⟩
      have b7 := Lib.hid (bthen (b4.out.alloc b4.out.size (vO 0 0 nilS)) (bthen (bthen hb5 hb6) hb7))
      clear hb5 hb6 hb7
      go_wp2
      go_ret
      exact ⟨rfl, b7.out.alloc b7.out.size _⟩
    · obtain ⟨p1, p2, p3, p4, p5, p6⟩ := parts a b HA.out HB.out h0 hm
      have fq := tdiv_fits' HA.out h0 hm
      have K1 := Lib.hid (fun w => twoI_lit _ _ row_quo a b w HA.out HB.out ⟨1, a.tdiv b, 0⟩ (by unfold divAns; rw [if_neg h0, if_neg hm]))
      have K2 := Lib.hid (fun w => twoI_lit _ _ row_rem a b w HA.out HB.out ⟨1, a.tmod b, 0⟩ (by unfold divAns; rw [if_neg h0, if_neg hm]))
      have K3 := Lib.hid (fun w => twoI_lit _ _ row_times (a.tdiv b) b w fq HB.out ⟨1, a.tdiv b * b, 0⟩ (ansOf_fits p1))
      have K4 := Lib.hid (fun w => twoI_lit _ _ row_plus (a.tdiv b * b) (a.tmod b) w p1 p3 ⟨1, a, 0⟩ (by show ansOf _ = _; rw [p2]; exact ansOf_fits HA.out))
      generalize a.tdiv b * b = pq at *
      generalize a.tdiv b = q at *
      generalize a.tmod b = r at *
      have P4 := Lib.hid p4
      have P5 := Lib.hid p5
      have P6 := Lib.hid p6
      have hbb := HB.out
      unfold fits at hbb
      have HN := Lib.hid (And.intro h0 hbb)
      clear h0 hm HA HB p1 p2 p3 p4 p5 p6 fq hbb
      go_enter Try.func4, Try.ntmps4
      go_wp2_with fail
      refine (head_true _).mono ?_
      rintro e w1 ⟨rfl, hb1⟩
      go_wp2_with fail
      refine (numC _ _).mono ?_
      rintro e w2 ⟨rfl, hb2⟩
      go_wp2_with fail
      refine (numC _ _).mono ?_
      rintro e w3 ⟨rfl, hb3⟩
      go_wp2_with fail
      refine (K1.out _).mono ?_
      rintro e w4 ⟨rfl, hb4⟩
      have b4 := Lib.hid (bthen (bthen (bthen hb1 hb2) hb3) hb4)
      clear hb1 hb2 hb3 hb4
      go_wp2_with fail
      refine (numC _ _).mono ?_
      rintro e w5 ⟨rfl, hb5⟩
      go_wp2_with fail
      refine (numC _ _).mono ?_
      rintro e w6 ⟨rfl, hb6⟩
      go_wp2_with fail
      refine (K2.out _).mono ?_
      rintro e w7 ⟨rfl, hb7⟩
      have b7 := bthen (bthen hb5 hb6) hb7
      have s7 := b7.size
      simp only [World.size_alloc] at s7
      have AX := Lib.hid (((at_new w4 1 q nilS).below b7 (by simp)).below (below_alloc w7 (vO 1 r nilS)) (by omega))
      have AY := Lib.hid (at_new w7 1 r nilS)
      have B7 := Lib.hid (bthen (bthen (b4.out.alloc b4.out.size (vO 1 q nilS)) b7) (below_alloc w7 (vO 1 r nilS)))
      have hlt : w4.heap.size < (w7.alloc (vO 1 r nilS)).heap.size := by simp; omega
      have hlt2 : w7.heap.size < (w7.alloc (vO 1 r nilS)).heap.size := by simp
      clear hb5 hb6 hb7 b7 b4
      go_upto_region 8 with fail
      generalize w7.alloc (vO 1 r nilS) = W at *
      go_cut [10, 11] (fun p g wx => ∃ B, p = .pointer (some ⟨B, 0, none⟩) ∧ g = .int .i64 0 ∧ W.heap.size ≤ B ∧ Below W.heap.size W wx ∧ At wx B 1 (pq) nilS)
      case first =>
        have HQ : Hid (∀ w', Below W.heap.size W w' → ((w'.cell? ⟨w4.heap.size, 0, none⟩ = some (.int .i64 1) ∧ w'.cell? ⟨w4.heap.size, 1, none⟩ = some (.int .i64 (q)) ∧ w'.cell? ⟨w4.heap.size, 2, none⟩ = some nilS))) := fun w' hb => (AX.out.below hb hlt).cells
        have hbl : Below W.heap.size W W.drew := (Below.refl _ _).drew
        have hbz : Below W.heap.size W (W.alloc zO).drew := (below_alloc W zO).drew
        have HZ0 : Hid (At (W.alloc zO).drew W.heap.size 0 0 nilS) := (at_new W 0 0 nilS).below ((Below.refl (W.heap.size + 1) _).drew) (Nat.lt_succ_self _)
        go_region_held3 (fun w' => (w'.cell? ⟨w4.heap.size, 0, none⟩ = some (.int .i64 1) ∧ w'.cell? ⟨w4.heap.size, 1, none⟩ = some (.int .i64 (q)) ∧ w'.cell? ⟨w4.heap.size, 2, none⟩ = some nilS))
          (first | with_reducible exact HQ.out _ hbl | with_reducible exact HQ.out _ hbz | with_reducible exact HQ.out _ (meet_new hbl).2.1 | with_reducible exact HQ.out _ (meet_zero hbl) | with_reducible exact HQ.out _ (meet_cells hbl hsz HZ.out).2.1 | with_reducible exact HQ.out _ (meet_cells hbl (Nat.le_refl _) HZ.out).2.1)
          (first | (go_at_call 11; refine (numC _ _).mono ?_; rintro e wn ⟨rfl, hbn⟩; first | (replace hbl := bthen hbl hbn; have hsz := hbl.size) | (have HZ := Lib.hid (HZ0.out.below hbn HZ0.out.lt); have hlz := HZ0.out.lt; replace hbl := bthen hbz hbn)) | (go_at_call 10; refine (K3.out _).mono ?_; rintro e w8 ⟨rfl, hbn2⟩; first | (replace HZ := Lib.hid (HZ.out.below hbn2 HZ.out.lt); obtain ⟨u0, u1, u2, v0, v1, v2⟩ := HZ.out.facts; replace hbl := bthen hbl hbn2) | (replace hbl := bthen hbl hbn2) | (have HZ := Lib.hid ((at_new wn 0 0 nilS).below hbn2 (by simp)); obtain ⟨u0, u1, u2, v0, v1, v2⟩ := HZ.out.facts; replace hbl := bthen (hbl.alloc hbl.size _) hbn2)))
        all_goals (go_wp2_with fail; go_meet)
        all_goals (refine ⟨_, rfl, rfl, ?_⟩; first | with_reducible exact meet_new hbl | with_reducible exact meet_cells hbl hsz HZ.out | with_reducible exact meet_cells hbl (Nat.le_refl _) HZ.out)
      case rest =>
        obtain ⟨B, rfl, rfl, hB, hW, hAt⟩ := hcut
        obtain ⟨x0, x1, x2⟩ := hAt.cells
        replace AY := Lib.hid (AY.out.below hW hlt2)
        obtain ⟨y0, y1, y2⟩ := AY.out.cells
        replace B7 := Lib.hid (bthen B7.out hW)
        replace hlt2 := Nat.lt_of_lt_of_le hlt2 hW.size
        have HAt := Lib.hid hAt
        clear hAt hW hB
        go_wp2_with fail
        refine (K4.out _).mono ?_
        rintro e w9 ⟨rfl, hb9⟩
        have B9 := Lib.hid (bthen (bthen B7.out hb9) (below_alloc w9 (vO 1 a nilS)))
        have y3 := ((AY.out.below hb9 hlt2).below (below_alloc w9 (vO 1 a nilS)) (Nat.lt_of_lt_of_le hlt2 hb9.size)).cells.2.1
        clear x0 x1 x2 y0 y1 y2 hb9
        rcases (show 0 < b ∨ b < 0 by have := HN.out.1; omega) with hpos | hneg
        · obtain ⟨q1, q2⟩ := P5.out hpos
          have hbb := HN.out.2
          rcases P4.out with hr | hr
          · have hr0 : (r == 0) = true := by simpa using hr
            clear hr
            go_wp2
            all_goals (go_ret; exact ⟨rfl, B9.out⟩)
          · by_cases hr0 : r = 0
            · have hr1 : (r == 0) = true := by simpa using hr0
              clear hr hr0
              go_wp2
              all_goals (go_ret; exact ⟨rfl, B9.out⟩)
            · have hr1 : (r == 0) = false := by simpa using hr0
              have hd : (decide (r < 0) == decide (a < 0)) = true := by simp [hr]
              clear hr hr0
              go_wp2
              all_goals (go_ret; exact ⟨rfl, B9.out⟩)
        · obtain ⟨q1, q2⟩ := P6.out hneg
          have hbb := HN.out.2
          by_cases hmin : b = -9223372036854775808
          · have hm1 : (b == -9223372036854775808) = true := by simpa using hmin
            clear hmin
            rcases P4.out with hr | hr
            · have hr0 : (r == 0) = true := by simpa using hr
              clear hr
              go_wp2
              all_goals (go_ret; exact ⟨rfl, B9.out⟩)
            · by_cases hr0 : r = 0
              · have hr1 : (r == 0) = true := by simpa using hr0
                clear hr hr0
                go_wp2
                all_goals (go_ret; exact ⟨rfl, B9.out⟩)
              · have hr1 : (r == 0) = false := by simpa using hr0
                have hd : (decide (r < 0) == decide (a < 0)) = true := by simp [hr]
                clear hr hr0
                go_wp2
                all_goals (go_ret; exact ⟨rfl, B9.out⟩)
          · have hm1 : (b == -9223372036854775808) = false := by simpa using hmin
            have hb3 : -9223372036854775807 ≤ b := by omega
            clear hmin
            rcases P4.out with hr | hr
            · have hr0 : (r == 0) = true := by simpa using hr
              clear hr
              go_wp2
              all_goals (go_ret; exact ⟨rfl, B9.out⟩)
            · by_cases hr0 : r = 0
              · have hr1 : (r == 0) = true := by simpa using hr0
                clear hr hr0
                go_wp2
                all_goals (go_ret; exact ⟨rfl, B9.out⟩)
              · have hr1 : (r == 0) = false := by simpa using hr0
                have hd : (decide (r < 0) == decide (a < 0)) = true := by simp [hr]
                clear hr hr0
                go_wp2
                all_goals (go_ret; exact ⟨rfl, B9.out⟩)
end Go.Proofs.Ytehihpfhcphdoaa
