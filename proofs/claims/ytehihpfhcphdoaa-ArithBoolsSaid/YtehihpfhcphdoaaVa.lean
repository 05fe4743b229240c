/- The walk of ArithBools at two of the four ways: it returns true, and nothing that was there has changed. Conditions: its int is of 64 bits. -/
import Derived.Test.YtehihpfhcphdoaaV
namespace Go.Proofs.Ytehihpfhcphdoaa
open Go.RowKit
set_option maxRecDepth 100000

set_option maxHeartbeats 6400000 in
theorem bools_tt (n : Int) (w : World) (hn : fits n) : Calls Try.prog 7 #[.bool true, .bool true, .int .i64 n] w fun e w' => e = .returned (.bool true) ∧ Below w.heap.size w w' := by
  have HN := Lib.hid hn
  clear hn
  have N0 := Lib.hid (not_lit 0 1 rfl)
  have N1 := Lib.hid (not_lit 1 0 rfl)
  have KA := Lib.hid (two_lit _ _ row_and 1 1 1 rfl)
  have KO := Lib.hid (two_lit _ _ row_or 0 0 0 rfl)
  have KE := Lib.hid (two_lit _ _ row_eqB 1 1 1 rfl)
  have KN := Lib.hid (two_lit _ _ row_neB 1 1 0 rfl)
  go_enter Try.func7, Try.ntmps7
  go_wp2_with fail
  refine (head_true _).mono ?_
  rintro e w1 ⟨rfl, hb1⟩
  go_wp2_with fail
  refine (bool_lit true 1 rfl _).mono ?_
  rintro e w2 ⟨rfl, hb2⟩
  have B2 := Lib.hid (bthen (bthen hb1 hb2) (below_alloc w2 (vO 2 1 nilS)))
  have AX := Lib.hid (at_new w2 2 1 nilS)
  clear hb1 hb2
  go_wp2_with fail
  refine (bool_lit true 1 rfl _).mono ?_
  rintro e w3 ⟨rfl, hb3⟩
  have b3 := bthen hb3 (below_alloc w3 (vO 2 1 nilS))
  have lX := AX.out.lt
  replace AX := Lib.hid (AX.out.below b3 lX)
  have AY := Lib.hid (at_new w3 2 1 nilS)
  replace B2 := Lib.hid (bthen B2.out b3)
  clear hb3 b3 lX
  go_upto_region 6 with fail
  have lX := AX.out.lt
  have lY := AY.out.lt
  generalize w3.alloc (vO 2 1 nilS) = W at *
  go_cut [58] (fun s wx => s = .bool false ∧ Below W.heap.size W wx)
  case first =>
    have HQ : Hid (∀ w', Below W.heap.size W w' → ((w'.cell? ⟨w2.heap.size, 0, none⟩ = some (.int .i64 2) ∧ w'.cell? ⟨w2.heap.size, 1, none⟩ = some (.int .i64 1) ∧ w'.cell? ⟨w2.heap.size, 2, none⟩ = some nilS) ∧ (w'.cell? ⟨w3.heap.size, 0, none⟩ = some (.int .i64 2) ∧ w'.cell? ⟨w3.heap.size, 1, none⟩ = some (.int .i64 1) ∧ w'.cell? ⟨w3.heap.size, 2, none⟩ = some nilS))) := fun w' hb => ⟨(AX.out.below hb lX).cells, (AY.out.below hb lY).cells⟩
    have hbl : Below W.heap.size W W.drew := (Below.refl _ _).drew
    go_region_held3 (fun w' => (w'.cell? ⟨w2.heap.size, 0, none⟩ = some (.int .i64 2) ∧ w'.cell? ⟨w2.heap.size, 1, none⟩ = some (.int .i64 1) ∧ w'.cell? ⟨w2.heap.size, 2, none⟩ = some nilS) ∧ (w'.cell? ⟨w3.heap.size, 0, none⟩ = some (.int .i64 2) ∧ w'.cell? ⟨w3.heap.size, 1, none⟩ = some (.int .i64 1) ∧ w'.cell? ⟨w3.heap.size, 2, none⟩ = some nilS))
      (first | with_reducible exact HQ.out _ hbl)
      (first | (go_at_call 14; (first | with_reducible refine Calls.mono (N0.out _) ?_ | with_reducible refine Calls.mono (N1.out _) ?_); rintro e wn ⟨rfl, hbn⟩; replace hbl := bthen hbl hbn) | (go_at_call 16; (first | with_reducible refine Calls.mono (KA.out _) ?_ | with_reducible refine Calls.mono (KO.out _) ?_ | with_reducible refine Calls.mono (KE.out _) ?_ | with_reducible refine Calls.mono (KN.out _) ?_); rintro e wn ⟨rfl, hbn⟩; replace hbl := bthen hbl hbn) | (go_at_call 12; with_reducible refine Calls.mono (refSame0 _ _ _) ?_; rintro e wn ⟨rfl, hbn⟩; replace hbl := bthen hbl hbn))
    go_wp2_with fail
    go_meet
    exact ⟨rfl, hbl⟩
  case rest =>
    obtain ⟨rfl, hW⟩ := hcut
    replace B2 := Lib.hid (bthen B2.out hW)
    clear hW N0 N1 KA KO KE KN AX AY lX lY
    have K1 := Lib.hid (fun w => oneNeg n nilS w HN.out)
    have hbb := HN.out
    unfold fits at hbb
    by_cases hm : n = -9223372036854775808
    · have hm1 : (n == -9223372036854775808) = true := by simpa using hm
      rw [ansOf_not (by unfold fits; omega)] at K1
      clear hm hbb
      go_wp2_with fail
      refine (numC _ _).mono ?_
      rintro e w5 ⟨rfl, hb5⟩
      go_wp2_with fail
      refine (K1.out _).mono ?_
      rintro e w6 ⟨rfl, hb6⟩
      have b6 := Lib.hid (bthen (bthen (bthen B2.out hb5) hb6) (below_alloc w6 (vO 0 0 nilS)))
      clear hb5 hb6
      go_wp2
      go_ret
      exact ⟨rfl, b6.out⟩
    · have hf : fits (-n) := by unfold fits; omega
      rw [ansOf_fits hf] at K1
      have K2 := Lib.hid (fun w => oneF ⟨#[45]⟩ 1 (-n) ⟨1, n, 0⟩ (fun w => by have h := oneNeg (-n) nilS w hf; rw [Int.neg_neg, ansOf_fits HN.out] at h; exact h) w)
      clear hm hbb hf
      go_wp2_with fail
      refine (numC _ _).mono ?_
      rintro e w5 ⟨rfl, hb5⟩
      go_wp2_with fail
      refine (K1.out _).mono ?_
      rintro e w6 ⟨rfl, hb6⟩
      have b6 := Lib.hid (bthen (bthen (bthen B2.out hb5) hb6) (below_alloc w6 (vO 1 (-n) nilS)))
      clear hb5 hb6
      go_wp2_with fail
      refine (K2.out _).mono ?_
      rintro e w7 ⟨rfl, hb7⟩
      go_wp2_with fail
      refine (numC _ _).mono ?_
      rintro e w8 ⟨rfl, hb8⟩
      go_wp2_with fail
      refine (refSame0 _ _ _).mono ?_
      rintro e w9 ⟨rfl, hb9⟩
      go_wp2
      go_ret
      exact ⟨rfl, bthen (bthen (bthen b6.out hb7) hb8) hb9⟩

set_option maxHeartbeats 6400000 in
theorem bools_tf (n : Int) (w : World) (hn : fits n) : Calls Try.prog 7 #[.bool true, .bool false, .int .i64 n] w fun e w' => e = .returned (.bool true) ∧ Below w.heap.size w w' := by
  have HN := Lib.hid hn
  clear hn
  have N0 := Lib.hid (not_lit 0 1 rfl)
  have N1 := Lib.hid (not_lit 1 0 rfl)
  have KA := Lib.hid (two_lit _ _ row_and 1 0 0 rfl)
  have KO := Lib.hid (two_lit _ _ row_or 0 1 1 rfl)
  have KE := Lib.hid (two_lit _ _ row_eqB 1 0 0 rfl)
  have KN := Lib.hid (two_lit _ _ row_neB 1 0 1 rfl)
  go_enter Try.func7, Try.ntmps7
  go_wp2_with fail
  refine (head_true _).mono ?_
  rintro e w1 ⟨rfl, hb1⟩
  go_wp2_with fail
  refine (bool_lit true 1 rfl _).mono ?_
  rintro e w2 ⟨rfl, hb2⟩
  have B2 := Lib.hid (bthen (bthen hb1 hb2) (below_alloc w2 (vO 2 1 nilS)))
  have AX := Lib.hid (at_new w2 2 1 nilS)
  clear hb1 hb2
  go_wp2_with fail
  refine (bool_lit false 0 rfl _).mono ?_
  rintro e w3 ⟨rfl, hb3⟩
  have b3 := bthen hb3 (below_alloc w3 (vO 2 0 nilS))
  have lX := AX.out.lt
  replace AX := Lib.hid (AX.out.below b3 lX)
  have AY := Lib.hid (at_new w3 2 0 nilS)
  replace B2 := Lib.hid (bthen B2.out b3)
  clear hb3 b3 lX
  go_upto_region 6 with fail
  have lX := AX.out.lt
  have lY := AY.out.lt
  generalize w3.alloc (vO 2 0 nilS) = W at *
  go_cut [58] (fun s wx => s = .bool false ∧ Below W.heap.size W wx)
  case first =>
    have HQ : Hid (∀ w', Below W.heap.size W w' → ((w'.cell? ⟨w2.heap.size, 0, none⟩ = some (.int .i64 2) ∧ w'.cell? ⟨w2.heap.size, 1, none⟩ = some (.int .i64 1) ∧ w'.cell? ⟨w2.heap.size, 2, none⟩ = some nilS) ∧ (w'.cell? ⟨w3.heap.size, 0, none⟩ = some (.int .i64 2) ∧ w'.cell? ⟨w3.heap.size, 1, none⟩ = some (.int .i64 0) ∧ w'.cell? ⟨w3.heap.size, 2, none⟩ = some nilS))) := fun w' hb => ⟨(AX.out.below hb lX).cells, (AY.out.below hb lY).cells⟩
    have hbl : Below W.heap.size W W.drew := (Below.refl _ _).drew
    go_region_held3 (fun w' => (w'.cell? ⟨w2.heap.size, 0, none⟩ = some (.int .i64 2) ∧ w'.cell? ⟨w2.heap.size, 1, none⟩ = some (.int .i64 1) ∧ w'.cell? ⟨w2.heap.size, 2, none⟩ = some nilS) ∧ (w'.cell? ⟨w3.heap.size, 0, none⟩ = some (.int .i64 2) ∧ w'.cell? ⟨w3.heap.size, 1, none⟩ = some (.int .i64 0) ∧ w'.cell? ⟨w3.heap.size, 2, none⟩ = some nilS))
      (first | with_reducible exact HQ.out _ hbl)
      (first | (go_at_call 14; (first | with_reducible refine Calls.mono (N0.out _) ?_ | with_reducible refine Calls.mono (N1.out _) ?_); rintro e wn ⟨rfl, hbn⟩; replace hbl := bthen hbl hbn) | (go_at_call 16; (first | with_reducible refine Calls.mono (KA.out _) ?_ | with_reducible refine Calls.mono (KO.out _) ?_ | with_reducible refine Calls.mono (KE.out _) ?_ | with_reducible refine Calls.mono (KN.out _) ?_); rintro e wn ⟨rfl, hbn⟩; replace hbl := bthen hbl hbn) | (go_at_call 12; with_reducible refine Calls.mono (refSame0 _ _ _) ?_; rintro e wn ⟨rfl, hbn⟩; replace hbl := bthen hbl hbn))
    go_wp2_with fail
    go_meet
    exact ⟨rfl, hbl⟩
  case rest =>
    obtain ⟨rfl, hW⟩ := hcut
    replace B2 := Lib.hid (bthen B2.out hW)
    clear hW N0 N1 KA KO KE KN AX AY lX lY
    have K1 := Lib.hid (fun w => oneNeg n nilS w HN.out)
    have hbb := HN.out
    unfold fits at hbb
    by_cases hm : n = -9223372036854775808
    · have hm1 : (n == -9223372036854775808) = true := by simpa using hm
      rw [ansOf_not (by unfold fits; omega)] at K1
      clear hm hbb
      go_wp2_with fail
      refine (numC _ _).mono ?_
      rintro e w5 ⟨rfl, hb5⟩
      go_wp2_with fail
      refine (K1.out _).mono ?_
      rintro e w6 ⟨rfl, hb6⟩
      have b6 := Lib.hid (bthen (bthen (bthen B2.out hb5) hb6) (below_alloc w6 (vO 0 0 nilS)))
      clear hb5 hb6
      go_wp2
      go_ret
      exact ⟨rfl, b6.out⟩
    · have hf : fits (-n) := by unfold fits; omega
      rw [ansOf_fits hf] at K1
      have K2 := Lib.hid (fun w => oneF ⟨#[45]⟩ 1 (-n) ⟨1, n, 0⟩ (fun w => by have h := oneNeg (-n) nilS w hf; rw [Int.neg_neg, ansOf_fits HN.out] at h; exact h) w)
      clear hm hbb hf
      go_wp2_with fail
      refine (numC _ _).mono ?_
      rintro e w5 ⟨rfl, hb5⟩
      go_wp2_with fail
      refine (K1.out _).mono ?_
      rintro e w6 ⟨rfl, hb6⟩
      have b6 := Lib.hid (bthen (bthen (bthen B2.out hb5) hb6) (below_alloc w6 (vO 1 (-n) nilS)))
      clear hb5 hb6
      go_wp2_with fail
      refine (K2.out _).mono ?_
      rintro e w7 ⟨rfl, hb7⟩
      go_wp2_with fail
      refine (numC _ _).mono ?_
      rintro e w8 ⟨rfl, hb8⟩
      go_wp2_with fail
      refine (refSame0 _ _ _).mono ?_
      rintro e w9 ⟨rfl, hb9⟩
      go_wp2
      go_ret
      exact ⟨rfl, bthen (bthen (bthen b6.out hb7) hb8) hb9⟩
end Go.Proofs.Ytehihpfhcphdoaa
