/- The walk of MeterTexts: it returns true, and nothing that was there has changed. Conditions: lengths are of 16 bits. -/
import Derived.Test.YtadoecimcbgkjaaC
namespace Go.Proofs.Ytadoecimcbgkjaa
open Go.RowKit
set_option linter.unusedVariables false
set_option maxRecDepth 100000
theorem up_in {m n : Int} (h0 : 0 ≤ n) (h1 : n ≤ m) : up m n = n := by unfold up; omega
theorem put_in {a b : Int} (ha : 0 ≤ a ∧ a ≤ 200000) (hb : 0 ≤ b ∧ b ≤ 200000) : putN a b = 4 + (a + b) / 16 := by
  unfold putN
  rw [up_in (by omega) (by omega), up_in (by omega) (by omega), cost_pos (by omega)]
set_option maxHeartbeats 1600000 in
theorem texts_walk (a b m : Int) (w : World) (ha : 0 ≤ a ∧ a ≤ 65535) (hb : 0 ≤ b ∧ b ≤ 65535) (hm : 0 ≤ m ∧ m ≤ 65535) : Calls Try.prog 5 #[.int .u16 a, .int .u16 b, .int .u16 m] w fun e w' => e = .returned (.bool true) ∧ Below w.heap.size w w' := by
  obtain ⟨x, hx⟩ : ∃ x, putN a b = x := ⟨_, rfl⟩
  obtain ⟨y, hy⟩ : ∃ y, putN (a + m) b = y := ⟨_, rfl⟩
  obtain ⟨c, hc⟩ : ∃ c, cost (max (a + m) 0) = c := ⟨_, rfl⟩
  obtain ⟨d, hd⟩ : ∃ d, cost (max a 0) = d := ⟨_, rfl⟩
  have wa : wrap64 a = a := wrap_id (by unfold fits; omega)
  have wb : wrap64 b = b := wrap_id (by unfold fits; omega)
  have wm : wrap64 m = m := wrap_id (by unfold fits; omega)
  have w1 : wrap64 (a + m) = a + m := wrap_id (by unfold fits; omega)
  have K1 : Hid (∀ w, Calls Try.prog 14 #[.int .i64 (wrap64 a), .int .i64 (wrap64 b)] w fun e w' => e = .returned (.int .i64 x) ∧ Below w.heap.size w w') := by show ∀ w, _; rw [wa, wb]; exact putL _ _ x hx
  have K2 : Hid (∀ w, Calls Try.prog 12 #[.int .i64 (wrap64 (wrap64 a + wrap64 m))] w fun e w' => e = .returned (.int .i64 c) ∧ Below w.heap.size w w') := by show ∀ w, _; rw [wa, wm, w1]; exact textsL _ c (by unfold fits; omega) hc
  have K3 : Hid (∀ w, Calls Try.prog 12 #[.int .i64 (wrap64 a)] w fun e w' => e = .returned (.int .i64 d) ∧ Below w.heap.size w w') := by show ∀ w, _; rw [wa]; exact textsL _ d (by unfold fits; omega) hd
  have K4 : Hid (∀ w, Calls Try.prog 14 #[.int .i64 (wrap64 (wrap64 a + wrap64 m)), .int .i64 (wrap64 b)] w fun e w' => e = .returned (.int .i64 y) ∧ Below w.heap.size w w') := by show ∀ w, _; rw [wa, wb, wm, w1]; exact putL _ _ y hy
  rw [put_in (by omega) (by omega)] at hx hy
  rw [show max (a + m) 0 = a + m by omega, cost_pos (by omega)] at hc
  rw [show max a 0 = a by omega, cost_pos (by omega)] at hd
  have q1 : d ≤ c := by omega
  have q2 : 4 ≤ x := by omega
  have q3 : (x == wrap64 (4 + wrap64 ((wrap64 (wrap64 a + wrap64 b)).tdiv 16))) = true := by
    rw [wa, wb, show wrap64 (a + b) = a + b from wrap_id (by unfold fits; omega), Int.tdiv_eq_ediv_of_nonneg (by omega), show wrap64 ((a + b) / 16) = (a + b) / 16 from wrap_id (by unfold fits; omega), wrap_id (by unfold fits; omega), beq_iff_eq]
    omega
  have q4 : x ≤ y := by omega
  clear hx hy hc hd w1 ha hb hm wa wb wm
  go_enter Try.func5, Try.ntmps5
  go_wp2_with fail
  with_reducible refine (head_true _).mono ?_
  rintro e w1 ⟨rfl, b1⟩
  have B1 := Lib.hid b1
  clear b1
  go_wp2_with fail
  with_reducible refine (K1.out _).mono ?_
  rintro e w2 ⟨rfl, b2⟩
  have B2 := Lib.hid (bthen B1.out b2 B1.out.size)
  clear b2 B1
  go_wp2_with fail
  with_reducible refine (K2.out _).mono ?_
  rintro e w3 ⟨rfl, b3⟩
  have B3 := Lib.hid (bthen B2.out b3 B2.out.size)
  clear b3 B2
  go_wp2_with fail
  with_reducible refine (K3.out _).mono ?_
  rintro e w4 ⟨rfl, b4⟩
  have B4 := Lib.hid (bthen B3.out b4 B3.out.size)
  clear b4 B3
  go_wp2_with fail
  with_reducible refine (K4.out _).mono ?_
  rintro e w5 ⟨rfl, b5⟩
  have B5 := Lib.hid (bthen B4.out b5 B4.out.size)
  clear b5 B4
  go_wp2
  go_ret
  exact ⟨rfl, B5.out⟩
end Go.Proofs.Ytadoecimcbgkjaa
