/- The walk of ArithUndoes: it returns true, and nothing that was there has changed. Conditions: ints are of 64 bits. -/
import Derived.Test.YtehihpfhcphdoaaH
namespace Go.Proofs.Ytehihpfhcphdoaa
open Go.RowKit
set_option maxRecDepth 100000

set_option maxHeartbeats 1600000 in
theorem undoes_walk (a b : Int) (w : World) (ha : fits a) (hb : fits b) : Calls Try.prog 3 #[.int .i64 a, .int .i64 b] w fun e w' => e = .returned (.bool true) ∧ Below w.heap.size w w' := by
  have HA := Lib.hid ha
  have HB := Lib.hid hb
  clear ha hb
  by_cases hs : fits (a + b)
  · by_cases hd : fits (a - b)
    · skip
      have K1 := Lib.hid (fun w => twoI_lit _ _ row_plus a b w HA.out HB.out _ (ansOf_fits hs))
      have K2 := Lib.hid (fun w => twoI_lit _ _ row_minus a b w HA.out HB.out _ (ansOf_fits hd))
      have K3 := Lib.hid (fun w => twoI_lit _ _ row_minus (a + b) b w hs HB.out ⟨1, a, 0⟩ (by show ansOf (a + b - b) = _; rw [Int.add_sub_cancel]; exact ansOf_fits HA.out))
      have K4 := Lib.hid (fun w => twoI_lit _ _ row_plus (a - b) b w hd HB.out ⟨1, a, 0⟩ (by show ansOf (a - b + b) = _; rw [Int.sub_add_cancel]; exact ansOf_fits HA.out))
      have K5 := Lib.hid (fun w => twoI_lit _ _ row_plus b a w HB.out HA.out ⟨1, a + b, 0⟩ (by show ansOf (b + a) = _; rw [Int.add_comm]; exact ansOf_fits hs))
      clear hs hd HA HB
      go_enter Try.func3, Try.ntmps3
      go_wp2_with fail
      refine (head_true _).mono ?_
      rintro e w1 ⟨rfl, hb1⟩
      go_wp2_with fail
      refine (numC _ _).mono ?_
      rintro e w2 ⟨rfl, hb2⟩
      go_wp2_with fail
      refine (numC _ _).mono ?_
      rintro e w3 ⟨rfl, hb3⟩
      go_wp2_with fail
      refine (K1.out _).mono ?_
      rintro e w4 ⟨rfl, hb4⟩
      have b4 := Lib.hid (bthen (bthen (bthen hb1 hb2) hb3) hb4)
      clear hb1 hb2 hb3 hb4
      go_wp2_with fail
      refine (numC _ _).mono ?_
      rintro e w5 ⟨rfl, hb5⟩
      go_wp2_with fail
      refine (numC _ _).mono ?_
      rintro e w6 ⟨rfl, hb6⟩
      go_wp2_with fail
      refine (K2.out _).mono ?_
      rintro e w7 ⟨rfl, hb7⟩
      have b7 := bthen (bthen hb5 hb6) hb7
      have s7 := b7.size
      simp only [World.size_alloc] at s7
      have AX := Lib.hid (((at_new w4 1 (a + b) nilS).below b7 (by simp)).below (below_alloc w7 (vO 1 (a - b) nilS)) (by omega))
      have AY := Lib.hid (at_new w7 1 (a - b) nilS)
      have B7 := Lib.hid (bthen (bthen (b4.out.alloc b4.out.size (vO 1 (a + b) nilS)) b7) (below_alloc w7 (vO 1 (a - b) nilS)))
      have hlt : w4.heap.size < (w7.alloc (vO 1 (a - b) nilS)).heap.size := by simp; omega
      have hlt2 : w7.heap.size < (w7.alloc (vO 1 (a - b) nilS)).heap.size := by simp
      clear hb5 hb6 hb7 b7 b4
      go_upto_region 5 with fail
      generalize w7.alloc (vO 1 (a - b) nilS) = W at *
      go_cut [10, 11] (fun p g wx => ∃ B, p = .pointer (some ⟨B, 0, none⟩) ∧ g = .int .i64 0 ∧ W.heap.size ≤ B ∧ Below W.heap.size W wx ∧ At wx B 1 (a) nilS)
      case first =>
        have HQ : Hid (∀ w', Below W.heap.size W w' → ((w'.cell? ⟨w4.heap.size, 0, none⟩ = some (.int .i64 1) ∧ w'.cell? ⟨w4.heap.size, 1, none⟩ = some (.int .i64 (a + b)) ∧ w'.cell? ⟨w4.heap.size, 2, none⟩ = some nilS))) := fun w' hb => (AX.out.below hb hlt).cells
        have hbl : Below W.heap.size W W.drew := (Below.refl _ _).drew
        have hbz : Below W.heap.size W (W.alloc zO).drew := (below_alloc W zO).drew
        have HZ0 : Hid (At (W.alloc zO).drew W.heap.size 0 0 nilS) := (at_new W 0 0 nilS).below ((Below.refl (W.heap.size + 1) _).drew) (Nat.lt_succ_self _)
        go_region_held3 (fun w' => (w'.cell? ⟨w4.heap.size, 0, none⟩ = some (.int .i64 1) ∧ w'.cell? ⟨w4.heap.size, 1, none⟩ = some (.int .i64 (a + b)) ∧ w'.cell? ⟨w4.heap.size, 2, none⟩ = some nilS))
          (first | with_reducible exact HQ.out _ hbl | with_reducible exact HQ.out _ hbz | with_reducible exact HQ.out _ (meet_new hbl).2.1 | with_reducible exact HQ.out _ (meet_zero hbl) | with_reducible exact HQ.out _ (meet_cells hbl hsz HZ.out).2.1 | with_reducible exact HQ.out _ (meet_cells hbl (Nat.le_refl _) HZ.out).2.1)
          (first | (go_at_call 11; refine (numC _ _).mono ?_; rintro e wn ⟨rfl, hbn⟩; first | (replace hbl := bthen hbl hbn; have hsz := hbl.size) | (have HZ := Lib.hid (HZ0.out.below hbn HZ0.out.lt); have hlz := HZ0.out.lt; replace hbl := bthen hbz hbn)) | (go_at_call 10; refine (K3.out _).mono ?_; rintro e w8 ⟨rfl, hbn2⟩; first | (replace HZ := Lib.hid (HZ.out.below hbn2 HZ.out.lt); obtain ⟨u0, u1, u2, v0, v1, v2⟩ := HZ.out.facts; replace hbl := bthen hbl hbn2) | (replace hbl := bthen hbl hbn2) | (have HZ := Lib.hid ((at_new wn 0 0 nilS).below hbn2 (by simp)); obtain ⟨u0, u1, u2, v0, v1, v2⟩ := HZ.out.facts; replace hbl := bthen (hbl.alloc hbl.size _) hbn2)))
        all_goals (go_wp2_with fail; go_meet)
        all_goals (refine ⟨_, rfl, rfl, ?_⟩; first | with_reducible exact meet_new hbl | with_reducible exact meet_cells hbl hsz HZ.out | with_reducible exact meet_cells hbl (Nat.le_refl _) HZ.out)
      case rest =>
        obtain ⟨B, rfl, rfl, hB, hW, hAt⟩ := hcut
        have hx := hAt.cells.2.1
        replace AX := Lib.hid (AX.out.below hW hlt)
        replace AY := Lib.hid (AY.out.below hW hlt2)
        replace B7 := Lib.hid (bthen B7.out hW)
        replace hlt := Nat.lt_of_lt_of_le hlt hW.size
        replace hlt2 := Nat.lt_of_lt_of_le hlt2 hW.size
        go_upto_region 9 with fail
        clear hx hAt hW hB
        generalize wc = W2 at *
        go_cut [12, 13] (fun p g wx => ∃ B, p = .pointer (some ⟨B, 0, none⟩) ∧ g = .int .i64 0 ∧ W2.heap.size ≤ B ∧ Below W2.heap.size W2 wx ∧ At wx B 1 (a) nilS)
        case first =>
          have HQ : Hid (∀ w', Below W2.heap.size W2 w' → ((w'.cell? ⟨w7.heap.size, 0, none⟩ = some (.int .i64 1) ∧ w'.cell? ⟨w7.heap.size, 1, none⟩ = some (.int .i64 (a - b)) ∧ w'.cell? ⟨w7.heap.size, 2, none⟩ = some nilS))) := fun w' hb => (AY.out.below hb hlt2).cells
          have hbl : Below W2.heap.size W2 W2.drew := (Below.refl _ _).drew
          have hbz : Below W2.heap.size W2 (W2.alloc zO).drew := (below_alloc W2 zO).drew
          have HZ0 : Hid (At (W2.alloc zO).drew W2.heap.size 0 0 nilS) := (at_new W2 0 0 nilS).below ((Below.refl (W2.heap.size + 1) _).drew) (Nat.lt_succ_self _)
          go_region_held3 (fun w' => (w'.cell? ⟨w7.heap.size, 0, none⟩ = some (.int .i64 1) ∧ w'.cell? ⟨w7.heap.size, 1, none⟩ = some (.int .i64 (a - b)) ∧ w'.cell? ⟨w7.heap.size, 2, none⟩ = some nilS))
            (first | with_reducible exact HQ.out _ hbl | with_reducible exact HQ.out _ hbz | with_reducible exact HQ.out _ (meet_new hbl).2.1 | with_reducible exact HQ.out _ (meet_zero hbl) | with_reducible exact HQ.out _ (meet_cells hbl hsz HZ.out).2.1 | with_reducible exact HQ.out _ (meet_cells hbl (Nat.le_refl _) HZ.out).2.1)
            (first | (go_at_call 11; refine (numC _ _).mono ?_; rintro e wn ⟨rfl, hbn⟩; first | (replace hbl := bthen hbl hbn; have hsz := hbl.size) | (have HZ := Lib.hid (HZ0.out.below hbn HZ0.out.lt); have hlz := HZ0.out.lt; replace hbl := bthen hbz hbn)) | (go_at_call 10; refine (K4.out _).mono ?_; rintro e w8 ⟨rfl, hbn2⟩; first | (replace HZ := Lib.hid (HZ.out.below hbn2 HZ.out.lt); obtain ⟨u0, u1, u2, v0, v1, v2⟩ := HZ.out.facts; replace hbl := bthen hbl hbn2) | (replace hbl := bthen hbl hbn2) | (have HZ := Lib.hid ((at_new wn 0 0 nilS).below hbn2 (by simp)); obtain ⟨u0, u1, u2, v0, v1, v2⟩ := HZ.out.facts; replace hbl := bthen (hbl.alloc hbl.size _) hbn2)))
          all_goals (go_wp2_with fail; go_meet)
          all_goals (refine ⟨_, rfl, rfl, ?_⟩; first | with_reducible exact meet_new hbl | with_reducible exact meet_cells hbl hsz HZ.out | with_reducible exact meet_cells hbl (Nat.le_refl _) HZ.out)
        case rest =>
          obtain ⟨B, rfl, rfl, hB, hW, hAt⟩ := hcut
          have hx := hAt.cells.2.1
          replace AX := Lib.hid (AX.out.below hW hlt)
          replace B7 := Lib.hid (bthen B7.out hW)
          replace hlt := Nat.lt_of_lt_of_le hlt hW.size
          go_upto_region 12 with fail
          clear hx hAt hW hB
          go_wp2_with fail
          refine (numC _ _).mono ?_
          rintro e w10 ⟨rfl, hb10⟩
          go_wp2_with fail
          refine (numC _ _).mono ?_
          rintro e w11 ⟨rfl, hb11⟩
          go_wp2_with fail
          refine (K5.out _).mono ?_
          rintro e w12 ⟨rfl, hb12⟩
          have b12 := bthen (bthen hb10 hb11) hb12
          have AX := ((AX.out.below b12 hlt).below (below_alloc w12 (vO 1 (a + b) nilS)) (Nat.lt_of_lt_of_le hlt b12.size)).cells
          obtain ⟨x0, x1, x2⟩ := AX
          replace B7 := Lib.hid (bthen (bthen B7.out b12) (below_alloc w12 (vO 1 (a + b) nilS)))
          clear hb10 hb11 hb12 b12 AY
          go_wp2_with fail
          clear x0 x1 x2
          refine (refSame0 _ _ _).mono ?_
          rintro e w13 ⟨rfl, hb13⟩
          go_wp2
          go_ret
          exact ⟨rfl, bthen B7.out hb13⟩
    · skip
      have K1 := Lib.hid (fun w => twoI_lit _ _ row_plus a b w HA.out HB.out _ (ansOf_fits hs))
      have K2 := Lib.hid (fun w => twoI_lit _ _ row_minus a b w HA.out HB.out _ (ansOf_not hd))
      have K3 := Lib.hid (fun w => twoI_lit _ _ row_minus (a + b) b w hs HB.out ⟨1, a, 0⟩ (by show ansOf (a + b - b) = _; rw [Int.add_sub_cancel]; exact ansOf_fits HA.out))
      have K5 := Lib.hid (fun w => twoI_lit _ _ row_plus b a w HB.out HA.out ⟨1, a + b, 0⟩ (by show ansOf (b + a) = _; rw [Int.add_comm]; exact ansOf_fits hs))
      clear hs hd HA HB
      go_enter Try.func3, Try.ntmps3
      go_wp2_with fail
      refine (head_true _).mono ?_
      rintro e w1 ⟨rfl, hb1⟩
      go_wp2_with fail
      refine (numC _ _).mono ?_
      rintro e w2 ⟨rfl, hb2⟩
      go_wp2_with fail
      refine (numC _ _).mono ?_
      rintro e w3 ⟨rfl, hb3⟩
      go_wp2_with fail
      refine (K1.out _).mono ?_
      rintro e w4 ⟨rfl, hb4⟩
      have b4 := Lib.hid (bthen (bthen (bthen hb1 hb2) hb3) hb4)
      clear hb1 hb2 hb3 hb4
      go_wp2_with fail
      refine (numC _ _).mono ?_
      rintro e w5 ⟨rfl, hb5⟩
      go_wp2_with fail
      refine (numC _ _).mono ?_
      rintro e w6 ⟨rfl, hb6⟩
      go_wp2_with fail
      refine (K2.out _).mono ?_
      rintro e w7 ⟨rfl, hb7⟩
      have b7 := bthen (bthen hb5 hb6) hb7
      have s7 := b7.size
      simp only [World.size_alloc] at s7
      have AX := Lib.hid (((at_new w4 1 (a + b) nilS).below b7 (by simp)).below (below_alloc w7 (vO 0 0 nilS)) (by omega))
      have AY := Lib.hid (at_new w7 0 0 nilS)
      have B7 := Lib.hid (bthen (bthen (b4.out.alloc b4.out.size (vO 1 (a + b) nilS)) b7) (below_alloc w7 (vO 0 0 nilS)))
      have hlt : w4.heap.size < (w7.alloc (vO 0 0 nilS)).heap.size := by simp; omega
      have hlt2 : w7.heap.size < (w7.alloc (vO 0 0 nilS)).heap.size := by simp
      clear hb5 hb6 hb7 b7 b4
      go_upto_region 5 with fail
      generalize w7.alloc (vO 0 0 nilS) = W at *
      go_cut [10, 11] (fun p g wx => ∃ B, p = .pointer (some ⟨B, 0, none⟩) ∧ g = .int .i64 0 ∧ W.heap.size ≤ B ∧ Below W.heap.size W wx ∧ At wx B 1 (a) nilS)
      case first =>
        have HQ : Hid (∀ w', Below W.heap.size W w' → ((w'.cell? ⟨w4.heap.size, 0, none⟩ = some (.int .i64 1) ∧ w'.cell? ⟨w4.heap.size, 1, none⟩ = some (.int .i64 (a + b)) ∧ w'.cell? ⟨w4.heap.size, 2, none⟩ = some nilS))) := fun w' hb => (AX.out.below hb hlt).cells
        have hbl : Below W.heap.size W W.drew := (Below.refl _ _).drew
        have hbz : Below W.heap.size W (W.alloc zO).drew := (below_alloc W zO).drew
        have HZ0 : Hid (At (W.alloc zO).drew W.heap.size 0 0 nilS) := (at_new W 0 0 nilS).below ((Below.refl (W.heap.size + 1) _).drew) (Nat.lt_succ_self _)
        go_region_held3 (fun w' => (w'.cell? ⟨w4.heap.size, 0, none⟩ = some (.int .i64 1) ∧ w'.cell? ⟨w4.heap.size, 1, none⟩ = some (.int .i64 (a + b)) ∧ w'.cell? ⟨w4.heap.size, 2, none⟩ = some nilS))
          (first | with_reducible exact HQ.out _ hbl | with_reducible exact HQ.out _ hbz | with_reducible exact HQ.out _ (meet_new hbl).2.1 | with_reducible exact HQ.out _ (meet_zero hbl) | with_reducible exact HQ.out _ (meet_cells hbl hsz HZ.out).2.1 | with_reducible exact HQ.out _ (meet_cells hbl (Nat.le_refl _) HZ.out).2.1)
          (first | (go_at_call 11; refine (numC _ _).mono ?_; rintro e wn ⟨rfl, hbn⟩; first | (replace hbl := bthen hbl hbn; have hsz := hbl.size) | (have HZ := Lib.hid (HZ0.out.below hbn HZ0.out.lt); have hlz := HZ0.out.lt; replace hbl := bthen hbz hbn)) | (go_at_call 10; refine (K3.out _).mono ?_; rintro e w8 ⟨rfl, hbn2⟩; first | (replace HZ := Lib.hid (HZ.out.below hbn2 HZ.out.lt); obtain ⟨u0, u1, u2, v0, v1, v2⟩ := HZ.out.facts; replace hbl := bthen hbl hbn2) | (replace hbl := bthen hbl hbn2) | (have HZ := Lib.hid ((at_new wn 0 0 nilS).below hbn2 (by simp)); obtain ⟨u0, u1, u2, v0, v1, v2⟩ := HZ.out.facts; replace hbl := bthen (hbl.alloc hbl.size _) hbn2)))
        all_goals (go_wp2_with fail; go_meet)
        all_goals (refine ⟨_, rfl, rfl, ?_⟩; first | with_reducible exact meet_new hbl | with_reducible exact meet_cells hbl hsz HZ.out | with_reducible exact meet_cells hbl (Nat.le_refl _) HZ.out)
      case rest =>
        obtain ⟨B, rfl, rfl, hB, hW, hAt⟩ := hcut
        have hx := hAt.cells.2.1
        replace AX := Lib.hid (AX.out.below hW hlt)
        replace AY := Lib.hid (AY.out.below hW hlt2)
        replace B7 := Lib.hid (bthen B7.out hW)
        replace hlt := Nat.lt_of_lt_of_le hlt hW.size
        replace hlt2 := Nat.lt_of_lt_of_le hlt2 hW.size
        go_upto_region 12 with fail
        clear hx hAt hW hB
        go_wp2_with fail
        refine (numC _ _).mono ?_
        rintro e w10 ⟨rfl, hb10⟩
        go_wp2_with fail
        refine (numC _ _).mono ?_
        rintro e w11 ⟨rfl, hb11⟩
        go_wp2_with fail
        refine (K5.out _).mono ?_
        rintro e w12 ⟨rfl, hb12⟩
        have b12 := bthen (bthen hb10 hb11) hb12
        have AX := ((AX.out.below b12 hlt).below (below_alloc w12 (vO 1 (a + b) nilS)) (Nat.lt_of_lt_of_le hlt b12.size)).cells
        obtain ⟨x0, x1, x2⟩ := AX
        replace B7 := Lib.hid (bthen (bthen B7.out b12) (below_alloc w12 (vO 1 (a + b) nilS)))
        clear hb10 hb11 hb12 b12 AY
        go_wp2_with fail
        clear x0 x1 x2
        refine (refSame0 _ _ _).mono ?_
        rintro e w13 ⟨rfl, hb13⟩
        go_wp2
        go_ret
        exact ⟨rfl, bthen B7.out hb13⟩
  · by_cases hd : fits (a - b)
    · skip
      have K1 := Lib.hid (fun w => twoI_lit _ _ row_plus a b w HA.out HB.out _ (ansOf_not hs))
      have K2 := Lib.hid (fun w => twoI_lit _ _ row_minus a b w HA.out HB.out _ (ansOf_fits hd))
      have K4 := Lib.hid (fun w => twoI_lit _ _ row_plus (a - b) b w hd HB.out ⟨1, a, 0⟩ (by show ansOf (a - b + b) = _; rw [Int.sub_add_cancel]; exact ansOf_fits HA.out))
      have K5 := Lib.hid (fun w => twoI_lit _ _ row_plus b a w HB.out HA.out ⟨0, 0, 3⟩ (by show ansOf (b + a) = _; rw [Int.add_comm]; exact ansOf_not hs))
      clear hs hd HA HB
      go_enter Try.func3, Try.ntmps3
      go_wp2_with fail
      refine (head_true _).mono ?_
      rintro e w1 ⟨rfl, hb1⟩
      go_wp2_with fail
      refine (numC _ _).mono ?_
      rintro e w2 ⟨rfl, hb2⟩
      go_wp2_with fail
      refine (numC _ _).mono ?_
      rintro e w3 ⟨rfl, hb3⟩
      go_wp2_with fail
      refine (K1.out _).mono ?_
      rintro e w4 ⟨rfl, hb4⟩
      have b4 := Lib.hid (bthen (bthen (bthen hb1 hb2) hb3) hb4)
      clear hb1 hb2 hb3 hb4
      go_wp2_with fail
      refine (numC _ _).mono ?_
      rintro e w5 ⟨rfl, hb5⟩
      go_wp2_with fail
      refine (numC _ _).mono ?_
      rintro e w6 ⟨rfl, hb6⟩
      go_wp2_with fail
      refine (K2.out _).mono ?_
      rintro e w7 ⟨rfl, hb7⟩
      have b7 := bthen (bthen hb5 hb6) hb7
      have s7 := b7.size
      simp only [World.size_alloc] at s7
      have AX := Lib.hid (((at_new w4 0 0 nilS).below b7 (by simp)).below (below_alloc w7 (vO 1 (a - b) nilS)) (by omega))
      have AY := Lib.hid (at_new w7 1 (a - b) nilS)
      have B7 := Lib.hid (bthen (bthen (b4.out.alloc b4.out.size (vO 0 0 nilS)) b7) (below_alloc w7 (vO 1 (a - b) nilS)))
      have hlt : w4.heap.size < (w7.alloc (vO 1 (a - b) nilS)).heap.size := by simp; omega
      have hlt2 : w7.heap.size < (w7.alloc (vO 1 (a - b) nilS)).heap.size := by simp
      clear hb5 hb6 hb7 b7 b4
      go_upto_region 9 with fail
      generalize w7.alloc (vO 1 (a - b) nilS) = W at *
      go_cut [12, 13] (fun p g wx => ∃ B, p = .pointer (some ⟨B, 0, none⟩) ∧ g = .int .i64 0 ∧ W.heap.size ≤ B ∧ Below W.heap.size W wx ∧ At wx B 1 (a) nilS)
      case first =>
        have HQ : Hid (∀ w', Below W.heap.size W w' → ((w'.cell? ⟨w7.heap.size, 0, none⟩ = some (.int .i64 1) ∧ w'.cell? ⟨w7.heap.size, 1, none⟩ = some (.int .i64 (a - b)) ∧ w'.cell? ⟨w7.heap.size, 2, none⟩ = some nilS))) := fun w' hb => (AY.out.below hb hlt2).cells
        have hbl : Below W.heap.size W W.drew := (Below.refl _ _).drew
        have hbz : Below W.heap.size W (W.alloc zO).drew := (below_alloc W zO).drew
        have HZ0 : Hid (At (W.alloc zO).drew W.heap.size 0 0 nilS) := (at_new W 0 0 nilS).below ((Below.refl (W.heap.size + 1) _).drew) (Nat.lt_succ_self _)
        go_region_held3 (fun w' => (w'.cell? ⟨w7.heap.size, 0, none⟩ = some (.int .i64 1) ∧ w'.cell? ⟨w7.heap.size, 1, none⟩ = some (.int .i64 (a - b)) ∧ w'.cell? ⟨w7.heap.size, 2, none⟩ = some nilS))
          (first | with_reducible exact HQ.out _ hbl | with_reducible exact HQ.out _ hbz | with_reducible exact HQ.out _ (meet_new hbl).2.1 | with_reducible exact HQ.out _ (meet_zero hbl) | with_reducible exact HQ.out _ (meet_cells hbl hsz HZ.out).2.1 | with_reducible exact HQ.out _ (meet_cells hbl (Nat.le_refl _) HZ.out).2.1)
          (first | (go_at_call 11; refine (numC _ _).mono ?_; rintro e wn ⟨rfl, hbn⟩; first | (replace hbl := bthen hbl hbn; have hsz := hbl.size) | (have HZ := Lib.hid (HZ0.out.below hbn HZ0.out.lt); have hlz := HZ0.out.lt; replace hbl := bthen hbz hbn)) | (go_at_call 10; refine (K4.out _).mono ?_; rintro e w8 ⟨rfl, hbn2⟩; first | (replace HZ := Lib.hid (HZ.out.below hbn2 HZ.out.lt); obtain ⟨u0, u1, u2, v0, v1, v2⟩ := HZ.out.facts; replace hbl := bthen hbl hbn2) | (replace hbl := bthen hbl hbn2) | (have HZ := Lib.hid ((at_new wn 0 0 nilS).below hbn2 (by simp)); obtain ⟨u0, u1, u2, v0, v1, v2⟩ := HZ.out.facts; replace hbl := bthen (hbl.alloc hbl.size _) hbn2)))
        all_goals (go_wp2_with fail; go_meet)
        all_goals (refine ⟨_, rfl, rfl, ?_⟩; first | with_reducible exact meet_new hbl | with_reducible exact meet_cells hbl hsz HZ.out | with_reducible exact meet_cells hbl (Nat.le_refl _) HZ.out)
      case rest =>
        obtain ⟨B, rfl, rfl, hB, hW, hAt⟩ := hcut
        have hx := hAt.cells.2.1
        replace AX := Lib.hid (AX.out.below hW hlt)
        replace B7 := Lib.hid (bthen B7.out hW)
        replace hlt := Nat.lt_of_lt_of_le hlt hW.size
        go_upto_region 12 with fail
        clear hx hAt hW hB
        go_wp2_with fail
        refine (numC _ _).mono ?_
        rintro e w10 ⟨rfl, hb10⟩
        go_wp2_with fail
        refine (numC _ _).mono ?_
        rintro e w11 ⟨rfl, hb11⟩
        go_wp2_with fail
        refine (K5.out _).mono ?_
        rintro e w12 ⟨rfl, hb12⟩
        have b12 := bthen (bthen hb10 hb11) hb12
        have AX := ((AX.out.below b12 hlt).below (below_alloc w12 (vO 0 0 nilS)) (Nat.lt_of_lt_of_le hlt b12.size)).cells
        obtain ⟨x0, x1, x2⟩ := AX
        replace B7 := Lib.hid (bthen (bthen B7.out b12) (below_alloc w12 (vO 0 0 nilS)))
        clear hb10 hb11 hb12 b12 AY
        go_wp2_with fail
        clear x0 x1 x2
        refine (refSame0 _ _ _).mono ?_
        rintro e w13 ⟨rfl, hb13⟩
        go_wp2
        go_ret
        exact ⟨rfl, bthen B7.out hb13⟩
    · skip
      have K1 := Lib.hid (fun w => twoI_lit _ _ row_plus a b w HA.out HB.out _ (ansOf_not hs))
      have K2 := Lib.hid (fun w => twoI_lit _ _ row_minus a b w HA.out HB.out _ (ansOf_not hd))
      have K5 := Lib.hid (fun w => twoI_lit _ _ row_plus b a w HB.out HA.out ⟨0, 0, 3⟩ (by show ansOf (b + a) = _; rw [Int.add_comm]; exact ansOf_not hs))
      clear hs hd HA HB
      go_enter Try.func3, Try.ntmps3
      go_wp2_with fail
      refine (head_true _).mono ?_
      rintro e w1 ⟨rfl, hb1⟩
      go_wp2_with fail
      refine (numC _ _).mono ?_
      rintro e w2 ⟨rfl, hb2⟩
      go_wp2_with fail
      refine (numC _ _).mono ?_
      rintro e w3 ⟨rfl, hb3⟩
      go_wp2_with fail
      refine (K1.out _).mono ?_
      rintro e w4 ⟨rfl, hb4⟩
      have b4 := Lib.hid (bthen (bthen (bthen hb1 hb2) hb3) hb4)
      clear hb1 hb2 hb3 hb4
      go_wp2_with fail
      refine (numC _ _).mono ?_
      rintro e w5 ⟨rfl, hb5⟩
      go_wp2_with fail
      refine (numC _ _).mono ?_
      rintro e w6 ⟨rfl, hb6⟩
      go_wp2_with fail
      refine (K2.out _).mono ?_
      rintro e w7 ⟨rfl, hb7⟩
      have b7 := bthen (bthen hb5 hb6) hb7
      have s7 := b7.size
      simp only [World.size_alloc] at s7
      have AX := Lib.hid (((at_new w4 0 0 nilS).below b7 (by simp)).below (below_alloc w7 (vO 0 0 nilS)) (by omega))
      have AY := Lib.hid (at_new w7 0 0 nilS)
      have B7 := Lib.hid (bthen (bthen (b4.out.alloc b4.out.size (vO 0 0 nilS)) b7) (below_alloc w7 (vO 0 0 nilS)))
      have hlt : w4.heap.size < (w7.alloc (vO 0 0 nilS)).heap.size := by simp; omega
      have hlt2 : w7.heap.size < (w7.alloc (vO 0 0 nilS)).heap.size := by simp
      clear hb5 hb6 hb7 b7 b4
      go_upto_region 12 with fail
      generalize w7.alloc (vO 0 0 nilS) = W at *
      go_wp2_with fail
      refine (numC _ _).mono ?_
      rintro e w10 ⟨rfl, hb10⟩
      go_wp2_with fail
      refine (numC _ _).mono ?_
      rintro e w11 ⟨rfl, hb11⟩
      go_wp2_with fail
      refine (K5.out _).mono ?_
      rintro e w12 ⟨rfl, hb12⟩
      have b12 := bthen (bthen hb10 hb11) hb12
      have AX := ((AX.out.below b12 hlt).below (below_alloc w12 (vO 0 0 nilS)) (Nat.lt_of_lt_of_le hlt b12.size)).cells
      obtain ⟨x0, x1, x2⟩ := AX
      replace B7 := Lib.hid (bthen (bthen B7.out b12) (below_alloc w12 (vO 0 0 nilS)))
      clear hb10 hb11 hb12 b12 AY
      go_wp2_with fail
      clear x0 x1 x2
      refine (refSame0 _ _ _).mono ?_
      rintro e w13 ⟨rfl, hb13⟩
      go_wp2
      go_ret
      exact ⟨rfl, bthen B7.out hb13⟩
end Go.Proofs.Ytehihpfhcphdoaa
