/- The walk of ArithTimes: it returns true, and nothing that was there has changed. Conditions: ints are of 64 bits. -/
import Derived.Test.YtehihpfhcphdoaaH
namespace Go.Proofs.Ytehihpfhcphdoaa
open Go.RowKit
set_option maxRecDepth 100000

set_option maxHeartbeats 1600000 in
theorem times_walk (a b c : Int) (w : World) (ha : fits a) (hb : fits b) (hc : fits c) : Calls Try.prog 8 #[.int .i64 a, .int .i64 b, .int .i64 c] w fun e w' => e = .returned (.bool true) ∧ Below w.heap.size w w' := by
  have HA := Lib.hid ha
  have HB := Lib.hid hb
  have HC := Lib.hid hc
  clear ha hb hc
  by_cases h1 : fits (a * b) <;> by_cases h2 : fits (b + c) <;> by_cases h3 : fits (a * c)
  · skip
    have K1 := Lib.hid (fun w => twoI_lit _ _ row_times a b w HA.out HB.out ⟨1, a * b, 0⟩ (ansOf_fits h1))
    have K2 := Lib.hid (fun w => twoI_lit _ _ row_times b a w HB.out HA.out ⟨1, a * b, 0⟩ (by show ansOf (b * a) = _; rw [Int.mul_comm]; exact (ansOf_fits h1)))
    have K3 := Lib.hid (fun w => twoI_lit _ _ row_plus b c w HB.out HC.out ⟨1, b + c, 0⟩ (ansOf_fits h2))
    have K4 := Lib.hid (fun w => twoI_lit _ _ row_times a c w HA.out HC.out ⟨1, a * c, 0⟩ (ansOf_fits h3))
    obtain ⟨R, hR⟩ : ∃ R, ansOf (a * (b + c)) = R := ⟨_, rfl⟩
    have K5 := Lib.hid (fun w => twoI_lit _ _ row_times a (b + c) w HA.out h2 R hR)
    have K6 := Lib.hid (fun w => twoI_lit _ _ row_plus (a * b) (a * c) w h1 h3 R (by show ansOf _ = _; rw [← Int.mul_add]; exact hR))
    clear hR
    generalize a * b = ab at *
    generalize a * c = ac at *
    generalize b + c = bc at *
    clear h1 h2 h3 HA HB HC
    go_enter Try.func8, Try.ntmps8
    go_wp2_with fail
    refine (head_true _).mono ?_
    rintro e w1 ⟨rfl, hb1⟩
    go_wp2_with fail
    refine (numC _ _).mono ?_
    rintro e w2 ⟨rfl, hb2⟩
    go_wp2_with fail
    refine (numC _ _).mono ?_
    rintro e w3 ⟨rfl, hb3⟩
    go_wp2_with fail
    refine (K1.out _).mono ?_
    rintro e w4 ⟨rfl, hb4⟩
    have b4 := Lib.hid (bthen (bthen (bthen (bthen hb1 hb2) hb3) hb4) (below_alloc w4 (vO 1 (ab) nilS)))
    have AX := Lib.hid (at_new w4 1 (ab) nilS)
    clear hb1 hb2 hb3 hb4
    go_wp2_with fail
    refine (numC _ _).mono ?_
    rintro e w5 ⟨rfl, hb5⟩
    go_wp2_with fail
    refine (numC _ _).mono ?_
    rintro e w6 ⟨rfl, hb6⟩
    go_wp2_with fail
    refine (K2.out _).mono ?_
    rintro e w7 ⟨rfl, hb7⟩
    have b7 := bthen (bthen (bthen hb5 hb6) hb7) (below_alloc w7 (vO 1 (ab) nilS))
    have B7 := Lib.hid (bthen b4.out b7)
    replace AX := Lib.hid (AX.out.below b7 (by simp))
    have AY := Lib.hid (at_new w7 1 (ab) nilS)
    obtain ⟨x0, x1, x2⟩ := AX.out.cells
    clear hb5 hb6 hb7 b4
    go_wp2_with fail
    refine (refSame0 _ _ _).mono ?_
    rintro e w8 ⟨rfl, hb8⟩
    have lX := AX.out.lt
    replace B7 := Lib.hid (bthen B7.out hb8)
    replace AX := Lib.hid (AX.out.below hb8 lX)
    clear x0 x1 x2 AY b7 hb8 lX
    go_wp2_with fail
    refine (numC _ _).mono ?_
    rintro e w9 ⟨rfl, hb9⟩
    go_wp2_with fail
    refine (numC _ _).mono ?_
    rintro e w10 ⟨rfl, hb10⟩
    go_wp2_with fail
    refine (K3.out _).mono ?_
    rintro e w11 ⟨rfl, hb11⟩
    have b11 := bthen (bthen (bthen hb9 hb10) hb11) (below_alloc w11 (vO 1 (bc) nilS))
    replace B7 := Lib.hid (bthen B7.out b11)
    have lX := AX.out.lt
    replace AX := Lib.hid (AX.out.below b11 lX)
    have AS := Lib.hid (at_new w11 1 (bc) nilS)
    clear hb9 hb10 hb11 b11 lX
    go_wp2_with fail
    refine (numC _ _).mono ?_
    rintro e w12 ⟨rfl, hb12⟩
    go_wp2_with fail
    refine (numC _ _).mono ?_
    rintro e w13 ⟨rfl, hb13⟩
    go_wp2_with fail
    refine (K4.out _).mono ?_
    rintro e w14 ⟨rfl, hb14⟩
    have b14 := bthen (bthen (bthen hb12 hb13) hb14) (below_alloc w14 (vO 1 (ac) nilS))
    replace B7 := Lib.hid (bthen B7.out b14)
    have lX := AX.out.lt
    have lS := AS.out.lt
    replace AX := Lib.hid (AX.out.below b14 lX)
    replace AS := Lib.hid (AS.out.below b14 lS)
    have AZ := Lib.hid (at_new w14 1 (ac) nilS)
    clear hb12 hb13 hb14 b14 lX lS
    go_upto_region 10 with fail
    have lX := AX.out.lt
    have lS := AS.out.lt
    have lZ := AZ.out.lt
    generalize w14.alloc (vO 1 (ac) nilS) = W at *
    go_cut [16, 17] (fun p g wx => ∃ B, p = .pointer (some ⟨B, 0, none⟩) ∧ g = .int .i64 R.e ∧ W.heap.size ≤ B ∧ Below W.heap.size W wx ∧ At wx B R.t (R.n) nilS)
    case first =>
      have HQ : Hid (∀ w', Below W.heap.size W w' → ((w'.cell? ⟨w11.heap.size, 0, none⟩ = some (.int .i64 1) ∧ w'.cell? ⟨w11.heap.size, 1, none⟩ = some (.int .i64 (bc)) ∧ w'.cell? ⟨w11.heap.size, 2, none⟩ = some nilS))) := fun w' hb => (AS.out.below hb lS).cells
      have hbl : Below W.heap.size W W.drew := (Below.refl _ _).drew
      have hbz : Below W.heap.size W (W.alloc zO).drew := (below_alloc W zO).drew
      have HZ0 : Hid (At (W.alloc zO).drew W.heap.size 0 0 nilS) := (at_new W 0 0 nilS).below ((Below.refl (W.heap.size + 1) _).drew) (Nat.lt_succ_self _)
      go_region_held3 (fun w' => (w'.cell? ⟨w11.heap.size, 0, none⟩ = some (.int .i64 1) ∧ w'.cell? ⟨w11.heap.size, 1, none⟩ = some (.int .i64 (bc)) ∧ w'.cell? ⟨w11.heap.size, 2, none⟩ = some nilS))
        (first | with_reducible exact HQ.out _ hbl | with_reducible exact HQ.out _ hbz | with_reducible exact HQ.out _ (meet_new hbl).2.1 | with_reducible exact HQ.out _ (meet_zero hbl) | with_reducible exact HQ.out _ (meet_cells hbl hsz HZ.out).2.1 | with_reducible exact HQ.out _ (meet_cells hbl (Nat.le_refl _) HZ.out).2.1)
        (first | (go_at_call 11; refine (numC _ _).mono ?_; rintro e wn ⟨rfl, hbn⟩; first | (replace hbl := bthen hbl hbn; have hsz := hbl.size) | (have HZ := Lib.hid (HZ0.out.below hbn HZ0.out.lt); have hlz := HZ0.out.lt; replace hbl := bthen hbz hbn)) | (go_at_call 10; refine (K5.out _).mono ?_; rintro e w8 ⟨rfl, hbn2⟩; first | (replace HZ := Lib.hid (HZ.out.below hbn2 HZ.out.lt); obtain ⟨u0, u1, u2, v0, v1, v2⟩ := HZ.out.facts; replace hbl := bthen hbl hbn2) | (replace hbl := bthen hbl hbn2) | (have HZ := Lib.hid ((at_new wn 0 0 nilS).below hbn2 (by simp)); obtain ⟨u0, u1, u2, v0, v1, v2⟩ := HZ.out.facts; replace hbl := bthen (hbl.alloc hbl.size _) hbn2)))
      all_goals (go_wp2_with fail; go_meet)
      all_goals (refine ⟨_, rfl, rfl, ?_⟩; first | with_reducible exact meet_new hbl | with_reducible exact meet_cells hbl hsz HZ.out | with_reducible exact meet_cells hbl (Nat.le_refl _) HZ.out)
    case rest =>
      obtain ⟨B, rfl, rfl, hB, hW, hAt⟩ := hcut
      obtain ⟨x0, x1, x2⟩ := (AX.out.below hW lX).cells
      obtain ⟨z0, z1, z2⟩ := (AZ.out.below hW lZ).cells
      replace B7 := Lib.hid (bthen B7.out hW)
      have HAt := Lib.hid hAt
      have lB := hAt.lt
      clear hAt hW hB
      go_wp2_with fail
      refine (K6.out _).mono ?_
      rintro e w15 ⟨rfl, hb15⟩
      have b15 := bthen hb15 (below_alloc w15 (vO R.t R.n nilS))
      obtain ⟨y0, y1, y2⟩ := (HAt.out.below b15 lB).cells
      replace B7 := Lib.hid (bthen B7.out b15)
      clear x0 x1 x2 z0 z1 z2 hb15 b15
      go_wp2_with fail
      refine (refSame0 _ _ _).mono ?_
      rintro e w16 ⟨rfl, hb16⟩
      go_wp2
      go_ret
      exact ⟨rfl, bthen B7.out hb16⟩
  · skip
    have K1 := Lib.hid (fun w => twoI_lit _ _ row_times a b w HA.out HB.out ⟨1, a * b, 0⟩ (ansOf_fits h1))
    have K2 := Lib.hid (fun w => twoI_lit _ _ row_times b a w HB.out HA.out ⟨1, a * b, 0⟩ (by show ansOf (b * a) = _; rw [Int.mul_comm]; exact (ansOf_fits h1)))
    have K3 := Lib.hid (fun w => twoI_lit _ _ row_plus b c w HB.out HC.out ⟨1, b + c, 0⟩ (ansOf_fits h2))
    have K4 := Lib.hid (fun w => twoI_lit _ _ row_times a c w HA.out HC.out ⟨0, 0, 3⟩ (ansOf_not h3))
    generalize a * b = ab at *
    generalize a * c = ac at *
    generalize b + c = bc at *
    clear h1 h2 h3 HA HB HC
    go_enter Try.func8, Try.ntmps8
    go_wp2_with fail
    refine (head_true _).mono ?_
    rintro e w1 ⟨rfl, hb1⟩
    go_wp2_with fail
    refine (numC _ _).mono ?_
    rintro e w2 ⟨rfl, hb2⟩
    go_wp2_with fail
    refine (numC _ _).mono ?_
    rintro e w3 ⟨rfl, hb3⟩
    go_wp2_with fail
    refine (K1.out _).mono ?_
    rintro e w4 ⟨rfl, hb4⟩
    have b4 := Lib.hid (bthen (bthen (bthen (bthen hb1 hb2) hb3) hb4) (below_alloc w4 (vO 1 (ab) nilS)))
    have AX := Lib.hid (at_new w4 1 (ab) nilS)
    clear hb1 hb2 hb3 hb4
    go_wp2_with fail
    refine (numC _ _).mono ?_
    rintro e w5 ⟨rfl, hb5⟩
    go_wp2_with fail
    refine (numC _ _).mono ?_
    rintro e w6 ⟨rfl, hb6⟩
    go_wp2_with fail
    refine (K2.out _).mono ?_
    rintro e w7 ⟨rfl, hb7⟩
    have b7 := bthen (bthen (bthen hb5 hb6) hb7) (below_alloc w7 (vO 1 (ab) nilS))
    have B7 := Lib.hid (bthen b4.out b7)
    replace AX := Lib.hid (AX.out.below b7 (by simp))
    have AY := Lib.hid (at_new w7 1 (ab) nilS)
    obtain ⟨x0, x1, x2⟩ := AX.out.cells
    clear hb5 hb6 hb7 b4
    go_wp2_with fail
    refine (refSame0 _ _ _).mono ?_
    rintro e w8 ⟨rfl, hb8⟩
    have lX := AX.out.lt
    replace B7 := Lib.hid (bthen B7.out hb8)
    replace AX := Lib.hid (AX.out.below hb8 lX)
    clear x0 x1 x2 AY b7 hb8 lX
    go_wp2_with fail
    refine (numC _ _).mono ?_
    rintro e w9 ⟨rfl, hb9⟩
    go_wp2_with fail
    refine (numC _ _).mono ?_
    rintro e w10 ⟨rfl, hb10⟩
    go_wp2_with fail
    refine (K3.out _).mono ?_
    rintro e w11 ⟨rfl, hb11⟩
    have b11 := bthen (bthen (bthen hb9 hb10) hb11) (below_alloc w11 (vO 1 (bc) nilS))
    replace B7 := Lib.hid (bthen B7.out b11)
    have lX := AX.out.lt
    replace AX := Lib.hid (AX.out.below b11 lX)
    have AS := Lib.hid (at_new w11 1 (bc) nilS)
    clear hb9 hb10 hb11 b11 lX
    go_wp2_with fail
    refine (numC _ _).mono ?_
    rintro e w12 ⟨rfl, hb12⟩
    go_wp2_with fail
    refine (numC _ _).mono ?_
    rintro e w13 ⟨rfl, hb13⟩
    go_wp2_with fail
    refine (K4.out _).mono ?_
    rintro e w14 ⟨rfl, hb14⟩
    have b14 := bthen (bthen (bthen hb12 hb13) hb14) (below_alloc w14 (vO 0 0 nilS))
    replace B7 := Lib.hid (bthen B7.out b14)
    have lX := AX.out.lt
    have lS := AS.out.lt
    replace AX := Lib.hid (AX.out.below b14 lX)
    replace AS := Lib.hid (AS.out.below b14 lS)
    have AZ := Lib.hid (at_new w14 0 0 nilS)
    clear hb12 hb13 hb14 b14 lX lS
    go_wp2
    go_ret
    exact ⟨rfl, B7.out⟩
  · skip
    have K1 := Lib.hid (fun w => twoI_lit _ _ row_times a b w HA.out HB.out ⟨1, a * b, 0⟩ (ansOf_fits h1))
    have K2 := Lib.hid (fun w => twoI_lit _ _ row_times b a w HB.out HA.out ⟨1, a * b, 0⟩ (by show ansOf (b * a) = _; rw [Int.mul_comm]; exact (ansOf_fits h1)))
    have K3 := Lib.hid (fun w => twoI_lit _ _ row_plus b c w HB.out HC.out ⟨0, 0, 3⟩ (ansOf_not h2))
    have K4 := Lib.hid (fun w => twoI_lit _ _ row_times a c w HA.out HC.out ⟨1, a * c, 0⟩ (ansOf_fits h3))
    generalize a * b = ab at *
    generalize a * c = ac at *
    generalize b + c = bc at *
    clear h1 h2 h3 HA HB HC
    go_enter Try.func8, Try.ntmps8
    go_wp2_with fail
    refine (head_true _).mono ?_
    rintro e w1 ⟨rfl, hb1⟩
    go_wp2_with fail
    refine (numC _ _).mono ?_
    rintro e w2 ⟨rfl, hb2⟩
    go_wp2_with fail
    refine (numC _ _).mono ?_
    rintro e w3 ⟨rfl, hb3⟩
    go_wp2_with fail
    refine (K1.out _).mono ?_
    rintro e w4 ⟨rfl, hb4⟩
    have b4 := Lib.hid (bthen (bthen (bthen (bthen hb1 hb2) hb3) hb4) (below_alloc w4 (vO 1 (ab) nilS)))
    have AX := Lib.hid (at_new w4 1 (ab) nilS)
    clear hb1 hb2 hb3 hb4
    go_wp2_with fail
    refine (numC _ _).mono ?_
    rintro e w5 ⟨rfl, hb5⟩
    go_wp2_with fail
    refine (numC _ _).mono ?_
    rintro e w6 ⟨rfl, hb6⟩
    go_wp2_with fail
    refine (K2.out _).mono ?_
    rintro e w7 ⟨rfl, hb7⟩
    have b7 := bthen (bthen (bthen hb5 hb6) hb7) (below_alloc w7 (vO 1 (ab) nilS))
    have B7 := Lib.hid (bthen b4.out b7)
    replace AX := Lib.hid (AX.out.below b7 (by simp))
    have AY := Lib.hid (at_new w7 1 (ab) nilS)
    obtain ⟨x0, x1, x2⟩ := AX.out.cells
    clear hb5 hb6 hb7 b4
    go_wp2_with fail
    refine (refSame0 _ _ _).mono ?_
    rintro e w8 ⟨rfl, hb8⟩
    have lX := AX.out.lt
    replace B7 := Lib.hid (bthen B7.out hb8)
    replace AX := Lib.hid (AX.out.below hb8 lX)
    clear x0 x1 x2 AY b7 hb8 lX
    go_wp2_with fail
    refine (numC _ _).mono ?_
    rintro e w9 ⟨rfl, hb9⟩
    go_wp2_with fail
    refine (numC _ _).mono ?_
    rintro e w10 ⟨rfl, hb10⟩
    go_wp2_with fail
    refine (K3.out _).mono ?_
    rintro e w11 ⟨rfl, hb11⟩
    have b11 := bthen (bthen (bthen hb9 hb10) hb11) (below_alloc w11 (vO 0 0 nilS))
    replace B7 := Lib.hid (bthen B7.out b11)
    have lX := AX.out.lt
    replace AX := Lib.hid (AX.out.below b11 lX)
    have AS := Lib.hid (at_new w11 0 0 nilS)
    clear hb9 hb10 hb11 b11 lX
    go_wp2_with fail
    refine (numC _ _).mono ?_
    rintro e w12 ⟨rfl, hb12⟩
    go_wp2_with fail
    refine (numC _ _).mono ?_
    rintro e w13 ⟨rfl, hb13⟩
    go_wp2_with fail
    refine (K4.out _).mono ?_
    rintro e w14 ⟨rfl, hb14⟩
    have b14 := bthen (bthen (bthen hb12 hb13) hb14) (below_alloc w14 (vO 1 (ac) nilS))
    replace B7 := Lib.hid (bthen B7.out b14)
    have lX := AX.out.lt
    have lS := AS.out.lt
    replace AX := Lib.hid (AX.out.below b14 lX)
    replace AS := Lib.hid (AS.out.below b14 lS)
    have AZ := Lib.hid (at_new w14 1 (ac) nilS)
    clear hb12 hb13 hb14 b14 lX lS
    go_wp2
    go_ret
    exact ⟨rfl, B7.out⟩
  · skip
    have K1 := Lib.hid (fun w => twoI_lit _ _ row_times a b w HA.out HB.out ⟨1, a * b, 0⟩ (ansOf_fits h1))
    have K2 := Lib.hid (fun w => twoI_lit _ _ row_times b a w HB.out HA.out ⟨1, a * b, 0⟩ (by show ansOf (b * a) = _; rw [Int.mul_comm]; exact (ansOf_fits h1)))
    have K3 := Lib.hid (fun w => twoI_lit _ _ row_plus b c w HB.out HC.out ⟨0, 0, 3⟩ (ansOf_not h2))
    have K4 := Lib.hid (fun w => twoI_lit _ _ row_times a c w HA.out HC.out ⟨0, 0, 3⟩ (ansOf_not h3))
    generalize a * b = ab at *
    generalize a * c = ac at *
    generalize b + c = bc at *
    clear h1 h2 h3 HA HB HC
    go_enter Try.func8, Try.ntmps8
    go_wp2_with fail
    refine (head_true _).mono ?_
    rintro e w1 ⟨rfl, hb1⟩
    go_wp2_with fail
    refine (numC _ _).mono ?_
    rintro e w2 ⟨rfl, hb2⟩
    go_wp2_with fail
    refine (numC _ _).mono ?_
    rintro e w3 ⟨rfl, hb3⟩
    go_wp2_with fail
    refine (K1.out _).mono ?_
    rintro e w4 ⟨rfl, hb4⟩
    have b4 := Lib.hid (bthen (bthen (bthen (bthen hb1 hb2) hb3) hb4) (below_alloc w4 (vO 1 (ab) nilS)))
    have AX := Lib.hid (at_new w4 1 (ab) nilS)
    clear hb1 hb2 hb3 hb4
    go_wp2_with fail
    refine (numC _ _).mono ?_
    rintro e w5 ⟨rfl, hb5⟩
    go_wp2_with fail
    refine (numC _ _).mono ?_
    rintro e w6 ⟨rfl, hb6⟩
    go_wp2_with fail
    refine (K2.out _).mono ?_
    rintro e w7 ⟨rfl, hb7⟩
    have b7 := bthen (bthen (bthen hb5 hb6) hb7) (below_alloc w7 (vO 1 (ab) nilS))
    have B7 := Lib.hid (bthen b4.out b7)
    replace AX := Lib.hid (AX.out.below b7 (by simp))
    have AY := Lib.hid (at_new w7 1 (ab) nilS)
    obtain ⟨x0, x1, x2⟩ := AX.out.cells
    clear hb5 hb6 hb7 b4
    go_wp2_with fail
    refine (refSame0 _ _ _).mono ?_
    rintro e w8 ⟨rfl, hb8⟩
    have lX := AX.out.lt
    replace B7 := Lib.hid (bthen B7.out hb8)
    replace AX := Lib.hid (AX.out.below hb8 lX)
    clear x0 x1 x2 AY b7 hb8 lX
    go_wp2_with fail
    refine (numC _ _).mono ?_
    rintro e w9 ⟨rfl, hb9⟩
    go_wp2_with fail
    refine (numC _ _).mono ?_
    rintro e w10 ⟨rfl, hb10⟩
    go_wp2_with fail
    refine (K3.out _).mono ?_
    rintro e w11 ⟨rfl, hb11⟩
    have b11 := bthen (bthen (bthen hb9 hb10) hb11) (below_alloc w11 (vO 0 0 nilS))
    replace B7 := Lib.hid (bthen B7.out b11)
    have lX := AX.out.lt
    replace AX := Lib.hid (AX.out.below b11 lX)
    have AS := Lib.hid (at_new w11 0 0 nilS)
    clear hb9 hb10 hb11 b11 lX
    go_wp2_with fail
    refine (numC _ _).mono ?_
    rintro e w12 ⟨rfl, hb12⟩
    go_wp2_with fail
    refine (numC _ _).mono ?_
    rintro e w13 ⟨rfl, hb13⟩
    go_wp2_with fail
    refine (K4.out _).mono ?_
    rintro e w14 ⟨rfl, hb14⟩
    have b14 := bthen (bthen (bthen hb12 hb13) hb14) (below_alloc w14 (vO 0 0 nilS))
    replace B7 := Lib.hid (bthen B7.out b14)
    have lX := AX.out.lt
    have lS := AS.out.lt
    replace AX := Lib.hid (AX.out.below b14 lX)
    replace AS := Lib.hid (AS.out.below b14 lS)
    have AZ := Lib.hid (at_new w14 0 0 nilS)
    clear hb12 hb13 hb14 b14 lX lS
    go_wp2
    go_ret
    exact ⟨rfl, B7.out⟩
  · skip
    have K1 := Lib.hid (fun w => twoI_lit _ _ row_times a b w HA.out HB.out ⟨0, 0, 3⟩ (ansOf_not h1))
    have K2 := Lib.hid (fun w => twoI_lit _ _ row_times b a w HB.out HA.out ⟨0, 0, 3⟩ (by show ansOf (b * a) = _; rw [Int.mul_comm]; exact (ansOf_not h1)))
    have K3 := Lib.hid (fun w => twoI_lit _ _ row_plus b c w HB.out HC.out ⟨1, b + c, 0⟩ (ansOf_fits h2))
    have K4 := Lib.hid (fun w => twoI_lit _ _ row_times a c w HA.out HC.out ⟨1, a * c, 0⟩ (ansOf_fits h3))
    generalize a * b = ab at *
    generalize a * c = ac at *
    generalize b + c = bc at *
    clear h1 h2 h3 HA HB HC
    go_enter Try.func8, Try.ntmps8
    go_wp2_with fail
    refine (head_true _).mono ?_
    rintro e w1 ⟨rfl, hb1⟩
    go_wp2_with fail
    refine (numC _ _).mono ?_
    rintro e w2 ⟨rfl, hb2⟩
    go_wp2_with fail
    refine (numC _ _).mono ?_
    rintro e w3 ⟨rfl, hb3⟩
    go_wp2_with fail
    refine (K1.out _).mono ?_
    rintro e w4 ⟨rfl, hb4⟩
    have b4 := Lib.hid (bthen (bthen (bthen (bthen hb1 hb2) hb3) hb4) (below_alloc w4 (vO 0 0 nilS)))
    have AX := Lib.hid (at_new w4 0 0 nilS)
    clear hb1 hb2 hb3 hb4
    go_wp2_with fail
    refine (numC _ _).mono ?_
    rintro e w5 ⟨rfl, hb5⟩
    go_wp2_with fail
    refine (numC _ _).mono ?_
    rintro e w6 ⟨rfl, hb6⟩
    go_wp2_with fail
    refine (K2.out _).mono ?_
    rintro e w7 ⟨rfl, hb7⟩
    have b7 := bthen (bthen (bthen hb5 hb6) hb7) (below_alloc w7 (vO 0 0 nilS))
    have B7 := Lib.hid (bthen b4.out b7)
    replace AX := Lib.hid (AX.out.below b7 (by simp))
    have AY := Lib.hid (at_new w7 0 0 nilS)
    obtain ⟨x0, x1, x2⟩ := AX.out.cells
    clear hb5 hb6 hb7 b4
    go_wp2_with fail
    refine (refSame0 _ _ _).mono ?_
    rintro e w8 ⟨rfl, hb8⟩
    have lX := AX.out.lt
    replace B7 := Lib.hid (bthen B7.out hb8)
    replace AX := Lib.hid (AX.out.below hb8 lX)
    clear x0 x1 x2 AY b7 hb8 lX
    go_wp2_with fail
    refine (numC _ _).mono ?_
    rintro e w9 ⟨rfl, hb9⟩
    go_wp2_with fail
    refine (numC _ _).mono ?_
    rintro e w10 ⟨rfl, hb10⟩
    go_wp2_with fail
    refine (K3.out _).mono ?_
    rintro e w11 ⟨rfl, hb11⟩
    have b11 := bthen (bthen (bthen hb9 hb10) hb11) (below_alloc w11 (vO 1 (bc) nilS))
    replace B7 := Lib.hid (bthen B7.out b11)
    have lX := AX.out.lt
    replace AX := Lib.hid (AX.out.below b11 lX)
    have AS := Lib.hid (at_new w11 1 (bc) nilS)
    clear hb9 hb10 hb11 b11 lX
    go_wp2_with fail
    refine (numC _ _).mono ?_
    rintro e w12 ⟨rfl, hb12⟩
    go_wp2_with fail
    refine (numC _ _).mono ?_
    rintro e w13 ⟨rfl, hb13⟩
    go_wp2_with fail
    refine (K4.out _).mono ?_
    rintro e w14 ⟨rfl, hb14⟩
    have b14 := bthen (bthen (bthen hb12 hb13) hb14) (below_alloc w14 (vO 1 (ac) nilS))
    replace B7 := Lib.hid (bthen B7.out b14)
    have lX := AX.out.lt
    have lS := AS.out.lt
    replace AX := Lib.hid (AX.out.below b14 lX)
    replace AS := Lib.hid (AS.out.below b14 lS)
    have AZ := Lib.hid (at_new w14 1 (ac) nilS)
    clear hb12 hb13 hb14 b14 lX lS
    go_wp2
    go_ret
    exact ⟨rfl, B7.out⟩
  · skip
    have K1 := Lib.hid (fun w => twoI_lit _ _ row_times a b w HA.out HB.out ⟨0, 0, 3⟩ (ansOf_not h1))
    have K2 := Lib.hid (fun w => twoI_lit _ _ row_times b a w HB.out HA.out ⟨0, 0, 3⟩ (by show ansOf (b * a) = _; rw [Int.mul_comm]; exact (ansOf_not h1)))
    have K3 := Lib.hid (fun w => twoI_lit _ _ row_plus b c w HB.out HC.out ⟨1, b + c, 0⟩ (ansOf_fits h2))
    have K4 := Lib.hid (fun w => twoI_lit _ _ row_times a c w HA.out HC.out ⟨0, 0, 3⟩ (ansOf_not h3))
    generalize a * b = ab at *
    generalize a * c = ac at *
    generalize b + c = bc at *
    clear h1 h2 h3 HA HB HC
    go_enter Try.func8, Try.ntmps8
    go_wp2_with fail
    refine (head_true _).mono ?_
    rintro e w1 ⟨rfl, hb1⟩
    go_wp2_with fail
    refine (numC _ _).mono ?_
    rintro e w2 ⟨rfl, hb2⟩
    go_wp2_with fail
    refine (numC _ _).mono ?_
    rintro e w3 ⟨rfl, hb3⟩
    go_wp2_with fail
    refine (K1.out _).mono ?_
    rintro e w4 ⟨rfl, hb4⟩
    have b4 := Lib.hid (bthen (bthen (bthen (bthen hb1 hb2) hb3) hb4) (below_alloc w4 (vO 0 0 nilS)))
    have AX := Lib.hid (at_new w4 0 0 nilS)
    clear hb1 hb2 hb3 hb4
    go_wp2_with fail
    refine (numC _ _).mono ?_
    rintro e w5 ⟨rfl, hb5⟩
    go_wp2_with fail
    refine (numC _ _).mono ?_
    rintro e w6 ⟨rfl, hb6⟩
    go_wp2_with fail
    refine (K2.out _).mono ?_
    rintro e w7 ⟨rfl, hb7⟩
    have b7 := bthen (bthen (bthen hb5 hb6) hb7) (below_alloc w7 (vO 0 0 nilS))
    have B7 := Lib.hid (bthen b4.out b7)
    replace AX := Lib.hid (AX.out.below b7 (by simp))
    have AY := Lib.hid (at_new w7 0 0 nilS)
    obtain ⟨x0, x1, x2⟩ := AX.out.cells
    clear hb5 hb6 hb7 b4
    go_wp2_with fail
    refine (refSame0 _ _ _).mono ?_
    rintro e w8 ⟨rfl, hb8⟩
    have lX := AX.out.lt
    replace B7 := Lib.hid (bthen B7.out hb8)
    replace AX := Lib.hid (AX.out.below hb8 lX)
    clear x0 x1 x2 AY b7 hb8 lX
    go_wp2_with fail
    refine (numC _ _).mono ?_
    rintro e w9 ⟨rfl, hb9⟩
    go_wp2_with fail
    refine (numC _ _).mono ?_
    rintro e w10 ⟨rfl, hb10⟩
    go_wp2_with fail
    refine (K3.out _).mono ?_
    rintro e w11 ⟨rfl, hb11⟩
    have b11 := bthen (bthen (bthen hb9 hb10) hb11) (below_alloc w11 (vO 1 (bc) nilS))
    replace B7 := Lib.hid (bthen B7.out b11)
    have lX := AX.out.lt
    replace AX := Lib.hid (AX.out.below b11 lX)
    have AS := Lib.hid (at_new w11 1 (bc) nilS)
    clear hb9 hb10 hb11 b11 lX
    go_wp2_with fail
    refine (numC _ _).mono ?_
    rintro e w12 ⟨rfl, hb12⟩
    go_wp2_with fail
    refine (numC _ _).mono ?_
    rintro e w13 ⟨rfl, hb13⟩
    go_wp2_with fail
    refine (K4.out _).mono ?_
    rintro e w14 ⟨rfl, hb14⟩
    have b14 := bthen (bthen (bthen hb12 hb13) hb14) (below_alloc w14 (vO 0 0 nilS))
    replace B7 := Lib.hid (bthen B7.out b14)
    have lX := AX.out.lt
    have lS := AS.out.lt
    replace AX := Lib.hid (AX.out.below b14 lX)
    replace AS := Lib.hid (AS.out.below b14 lS)
    have AZ := Lib.hid (at_new w14 0 0 nilS)
    clear hb12 hb13 hb14 b14 lX lS
    go_wp2
    go_ret
    exact ⟨rfl, B7.out⟩
  · skip
    have K1 := Lib.hid (fun w => twoI_lit _ _ row_times a b w HA.out HB.out ⟨0, 0, 3⟩ (ansOf_not h1))
    have K2 := Lib.hid (fun w => twoI_lit _ _ row_times b a w HB.out HA.out ⟨0, 0, 3⟩ (by show ansOf (b * a) = _; rw [Int.mul_comm]; exact (ansOf_not h1)))
    have K3 := Lib.hid (fun w => twoI_lit _ _ row_plus b c w HB.out HC.out ⟨0, 0, 3⟩ (ansOf_not h2))
    have K4 := Lib.hid (fun w => twoI_lit _ _ row_times a c w HA.out HC.out ⟨1, a * c, 0⟩ (ansOf_fits h3))
    generalize a * b = ab at *
    generalize a * c = ac at *
    generalize b + c = bc at *
    clear h1 h2 h3 HA HB HC
    go_enter Try.func8, Try.ntmps8
    go_wp2_with fail
    refine (head_true _).mono ?_
    rintro e w1 ⟨rfl, hb1⟩
    go_wp2_with fail
    refine (numC _ _).mono ?_
    rintro e w2 ⟨rfl, hb2⟩
    go_wp2_with fail
    refine (numC _ _).mono ?_
    rintro e w3 ⟨rfl, hb3⟩
    go_wp2_with fail
    refine (K1.out _).mono ?_
    rintro e w4 ⟨rfl, hb4⟩
    have b4 := Lib.hid (bthen (bthen (bthen (bthen hb1 hb2) hb3) hb4) (below_alloc w4 (vO 0 0 nilS)))
    have AX := Lib.hid (at_new w4 0 0 nilS)
    clear hb1 hb2 hb3 hb4
    go_wp2_with fail
    refine (numC _ _).mono ?_
    rintro e w5 ⟨rfl, hb5⟩
    go_wp2_with fail
    refine (numC _ _).mono ?_
    rintro e w6 ⟨rfl, hb6⟩
    go_wp2_with fail
    refine (K2.out _).mono ?_
    rintro e w7 ⟨rfl, hb7⟩
    have b7 := bthen (bthen (bthen hb5 hb6) hb7) (below_alloc w7 (vO 0 0 nilS))
    have B7 := Lib.hid (bthen b4.out b7)
    replace AX := Lib.hid (AX.out.below b7 (by simp))
    have AY := Lib.hid (at_new w7 0 0 nilS)
    obtain ⟨x0, x1, x2⟩ := AX.out.cells
    clear hb5 hb6 hb7 b4
    go_wp2_with fail
    refine (refSame0 _ _ _).mono ?_
    rintro e w8 ⟨rfl, hb8⟩
    have lX := AX.out.lt
    replace B7 := Lib.hid (bthen B7.out hb8)
    replace AX := Lib.hid (AX.out.below hb8 lX)
    clear x0 x1 x2 AY b7 hb8 lX
    go_wp2_with fail
    refine (numC _ _).mono ?_
    rintro e w9 ⟨rfl, hb9⟩
    go_wp2_with fail
    refine (numC _ _).mono ?_
    rintro e w10 ⟨rfl, hb10⟩
    go_wp2_with fail
    refine (K3.out _).mono ?_
    rintro e w11 ⟨rfl, hb11⟩
    have b11 := bthen (bthen (bthen hb9 hb10) hb11) (below_alloc w11 (vO 0 0 nilS))
    replace B7 := Lib.hid (bthen B7.out b11)
    have lX := AX.out.lt
    replace AX := Lib.hid (AX.out.below b11 lX)
    have AS := Lib.hid (at_new w11 0 0 nilS)
    clear hb9 hb10 hb11 b11 lX
    go_wp2_with fail
    refine (numC _ _).mono ?_
    rintro e w12 ⟨rfl, hb12⟩
    go_wp2_with fail
    refine (numC _ _).mono ?_
    rintro e w13 ⟨rfl, hb13⟩
    go_wp2_with fail
    refine (K4.out _).mono ?_
    rintro e w14 ⟨rfl, hb14⟩
    have b14 := bthen (bthen (bthen hb12 hb13) hb14) (below_alloc w14 (vO 1 (ac) nilS))
    replace B7 := Lib.hid (bthen B7.out b14)
    have lX := AX.out.lt
    have lS := AS.out.lt
    replace AX := Lib.hid (AX.out.below b14 lX)
    replace AS := Lib.hid (AS.out.below b14 lS)
    have AZ := Lib.hid (at_new w14 1 (ac) nilS)
    clear hb12 hb13 hb14 b14 lX lS
    go_wp2
    go_ret
    exact ⟨rfl, B7.out⟩
  · skip
    have K1 := Lib.hid (fun w => twoI_lit _ _ row_times a b w HA.out HB.out ⟨0, 0, 3⟩ (ansOf_not h1))
    have K2 := Lib.hid (fun w => twoI_lit _ _ row_times b a w HB.out HA.out ⟨0, 0, 3⟩ (by show ansOf (b * a) = _; rw [Int.mul_comm]; exact (ansOf_not h1)))
    have K3 := Lib.hid (fun w => twoI_lit _ _ row_plus b c w HB.out HC.out ⟨0, 0, 3⟩ (ansOf_not h2))
    have K4 := Lib.hid (fun w => twoI_lit _ _ row_times a c w HA.out HC.out ⟨0, 0, 3⟩ (ansOf_not h3))
    generalize a * b = ab at *
    generalize a * c = ac at *
    generalize b + c = bc at *
    clear h1 h2 h3 HA HB HC
    go_enter Try.func8, Try.ntmps8
    go_wp2_with fail
    refine (head_true _).mono ?_
    rintro e w1 ⟨rfl, hb1⟩
    go_wp2_with fail
    refine (numC _ _).mono ?_
    rintro e w2 ⟨rfl, hb2⟩
    go_wp2_with fail
    refine (numC _ _).mono ?_
    rintro e w3 ⟨rfl, hb3⟩
    go_wp2_with fail
    refine (K1.out _).mono ?_
    rintro e w4 ⟨rfl, hb4⟩
    have b4 := Lib.hid (bthen (bthen (bthen (bthen hb1 hb2) hb3) hb4) (below_alloc w4 (vO 0 0 nilS)))
    have AX := Lib.hid (at_new w4 0 0 nilS)
    clear hb1 hb2 hb3 hb4
    go_wp2_with fail
    refine (numC _ _).mono ?_
    rintro e w5 ⟨rfl, hb5⟩
    go_wp2_with fail
    refine (numC _ _).mono ?_
    rintro e w6 ⟨rfl, hb6⟩
    go_wp2_with fail
    refine (K2.out _).mono ?_
    rintro e w7 ⟨rfl, hb7⟩
    have b7 := bthen (bthen (bthen hb5 hb6) hb7) (below_alloc w7 (vO 0 0 nilS))
    have B7 := Lib.hid (bthen b4.out b7)
    replace AX := Lib.hid (AX.out.below b7 (by simp))
    have AY := Lib.hid (at_new w7 0 0 nilS)
    obtain ⟨x0, x1, x2⟩ := AX.out.cells
    clear hb5 hb6 hb7 b4
    go_wp2_with fail
    refine (refSame0 _ _ _).mono ?_
    rintro e w8 ⟨rfl, hb8⟩
    have lX := AX.out.lt
    replace B7 := Lib.hid (bthen B7.out hb8)
    replace AX := Lib.hid (AX.out.below hb8 lX)
    clear x0 x1 x2 AY b7 hb8 lX
    go_wp2_with fail
    refine (numC _ _).mono ?_
    rintro e w9 ⟨rfl, hb9⟩
    go_wp2_with fail
    refine (numC _ _).mono ?_
    rintro e w10 ⟨rfl, hb10⟩
    go_wp2_with fail
    refine (K3.out _).mono ?_
    rintro e w11 ⟨rfl, hb11⟩
    have b11 := bthen (bthen (bthen hb9 hb10) hb11) (below_alloc w11 (vO 0 0 nilS))
    replace B7 := Lib.hid (bthen B7.out b11)
    have lX := AX.out.lt
    replace AX := Lib.hid (AX.out.below b11 lX)
    have AS := Lib.hid (at_new w11 0 0 nilS)
    clear hb9 hb10 hb11 b11 lX
    go_wp2_with fail
    refine (numC _ _).mono ?_
    rintro e w12 ⟨rfl, hb12⟩
    go_wp2_with fail
    refine (numC _ _).mono ?_
    rintro e w13 ⟨rfl, hb13⟩
    go_wp2_with fail
    refine (K4.out _).mono ?_
    rintro e w14 ⟨rfl, hb14⟩
    have b14 := bthen (bthen (bthen hb12 hb13) hb14) (below_alloc w14 (vO 0 0 nilS))
    replace B7 := Lib.hid (bthen B7.out b14)
    have lX := AX.out.lt
    have lS := AS.out.lt
    replace AX := Lib.hid (AX.out.below b14 lX)
    replace AS := Lib.hid (AS.out.below b14 lS)
    have AZ := Lib.hid (at_new w14 0 0 nilS)
    clear hb12 hb13 hb14 b14 lX lS
    go_wp2
    go_ret
    exact ⟨rfl, B7.out⟩
end Go.Proofs.Ytehihpfhcphdoaa
