/- The walk of MeterEdges: it returns true, and nothing that was there has changed. Conditions: numbers are of 16 bits. -/
import Derived.Test.YtadoecimcbgkjaaC
import Derived.Deep.DeepCutAuto
namespace Go.Proofs.Ytadoecimcbgkjaa
open Go.RowKit
set_option linter.unusedVariables false
set_option maxRecDepth 100000
theorem new_in {n : Int} (h : 0 ≤ n ∧ n ≤ 65535) : newL n = n := by unfold newL up; omega
set_option maxHeartbeats 1600000 in
theorem edges_walk (l f : Int) (w : World) (hl : 0 ≤ l ∧ l ≤ 65535) (hf : 0 ≤ f ∧ f ≤ 65535) : Calls Try.prog 6 #[.int .u16 l, .int .u16 f] w fun e w' => e = .returned (.bool true) ∧ Below w.heap.size w w' := by
  have wl : wrap64 l = l := wrap_id (by unfold fits; omega)
  have wf : wrap64 f = f := wrap_id (by unfold fits; omega)
  have fl : fits l := by unfold fits; omega
  have ff : fits f := by unfold fits; omega
  have K0 : Hid (∀ w, Calls Try.prog 10 #[.int .i64 (wrap64 l)] w fun e w' => e = .returned (GV l 0) ∧ Below w.heap.size w w') := by show ∀ w, _; rw [wl]; exact newLit l l (new_in hl)
  rcases Int.lt_or_le l f with h | h
  · have K1 : Hid (∀ w, Calls Try.prog 8 #[GV l 0, .int .i64 (wrap64 f)] w fun e w' => e = .returned (.tuple #[GV l l, .bool false]) ∧ Below w.heap.size w w') := by
      show ∀ w, _
      rw [wf]
      have := use_no (l := l) (u := 0) (n := f) (by omega)
      exact useL _ _ _ _ _ fl (by decide) ff this.1 this.2
    have q : (l == wrap64 l) = true := by rw [wl, beq_iff_eq]
    clear wl wf fl ff hl hf
    go_enter Try.func6, Try.ntmps6
    go_wp2_with fail
    with_reducible refine (head_true _).mono ?_
    rintro e w1 ⟨rfl, b1⟩
    have B1 := Lib.hid b1
    clear b1
    go_wp2_with fail
    with_reducible refine (K0.out _).mono ?_
    rintro e w2 ⟨rfl, b2⟩
    have B2 := Lib.hid (bthen B1.out b2 B1.out.size)
    clear b2 B1
    go_wp2_with fail
    with_reducible refine (K1.out _).mono ?_
    rintro e w3 ⟨rfl, b3⟩
    have B3 := Lib.hid (bthen (B2.out.alloc B2.out.size _) b3 (B2.out.alloc B2.out.size _).size)
    clear b3 B2
    go_wp2
    go_ret
    exact ⟨rfl, B3.out.alloc B3.out.size _⟩
  · have K1 : Hid (∀ w, Calls Try.prog 8 #[GV l 0, .int .i64 (wrap64 f)] w fun e w' => e = .returned (.tuple #[GV l f, .bool true]) ∧ Below w.heap.size w w') := by
      show ∀ w, _
      rw [wf]
      have := use_yes (l := l) (u := 0) (n := f) (by omega)
      rw [Int.zero_add] at this
      exact useL _ _ _ _ _ fl (by decide) ff this.1 this.2
    have K2 : Hid (∀ w, Calls Try.prog 8 #[GV l f, .int .i64 (wrap64 (wrap64 l - wrap64 f))] w fun e w' => e = .returned (.tuple #[GV l l, .bool true]) ∧ Below w.heap.size w w') := by
      show ∀ w, _
      rw [wf, wl, wrap_id (x := l - f) (by unfold fits; omega)]
      have := use_yes (l := l) (u := f) (n := l - f) (by omega)
      rw [show f + (l - f) = l by omega] at this
      exact useL _ _ _ _ _ fl ff (by unfold fits; omega) this.1 this.2
    have K3 : Hid (∀ w, Calls Try.prog 8 #[GV l f, .int .i64 (wrap64 (wrap64 (wrap64 l - wrap64 f) + 1))] w fun e w' => e = .returned (.tuple #[GV l l, .bool false]) ∧ Below w.heap.size w w') := by
      show ∀ w, _
      rw [wf, wl, wrap_id (x := l - f) (by unfold fits; omega), wrap_id (x := l - f + 1) (by unfold fits; omega)]
      have := use_no (l := l) (u := f) (n := l - f + 1) (by omega)
      exact useL _ _ _ _ _ fl ff (by unfold fits; omega) this.1 this.2
    have K4 : Hid (∀ w, Calls Try.prog 8 #[GV l f, .int .i64 (-1)] w fun e w' => e = .returned (.tuple #[GV l l, .bool false]) ∧ Below w.heap.size w w') := by
      show ∀ w, _
      have := use_no (l := l) (u := f) (n := -1) (by omega)
      exact useL _ _ _ _ _ fl ff (by decide) this.1 this.2
    have K5 : Hid (∀ w, Calls Try.prog 8 #[GV l l, .int .i64 0] w fun e w' => e = .returned (.tuple #[GV l l, .bool true]) ∧ Below w.heap.size w w') := by
      show ∀ w, _
      have := use_yes (l := l) (u := l) (n := 0) (by omega)
      rw [Int.add_zero] at this
      exact useL _ _ _ _ _ fl fl (by decide) this.1 this.2
    have q : (l == wrap64 l) = true := by rw [wl, beq_iff_eq]
    have h' : ¬ l < f := by omega
    clear wl wf fl ff hl hf
    go_enter Try.func6, Try.ntmps6
    go_wp2_with fail
    with_reducible refine (head_true _).mono ?_
    rintro e w1 ⟨rfl, b1⟩
    have B1 := Lib.hid b1
    clear b1
    go_wp2_with fail
    with_reducible refine (K0.out _).mono ?_
    rintro e w2 ⟨rfl, b2⟩
    have B2 := Lib.hid (bthen B1.out b2 B1.out.size)
    clear b2 B1
    go_wp2_with fail
    with_reducible refine (K1.out _).mono ?_
    rintro e w3 ⟨rfl, b3⟩
    have B3 := Lib.hid (bthen (B2.out.alloc B2.out.size _) b3 (B2.out.alloc B2.out.size _).size)
    clear b3 B2
    have A3 := at_new w3 l f
    have B3' := Lib.hid (B3.out.alloc B3.out.size (gO l f))
    have L3 := A3.lt
    obtain ⟨c0, c1⟩ := A3.cells
    have A7 := Lib.hid A3
    clear B3 A3
    go_upto_region 6 with fail
    generalize w3.alloc (gO l f) = W3 at *
    generalize w3.heap.size = b7 at *
    go_wp2_with fail
    with_reducible refine (K2.out _).mono ?_
    rintro e w4 ⟨rfl, b4⟩
    have BB := bthen B3'.out b4 B3'.out.size
    have NB9 := at_new w4 l l
    have S4 := (below_alloc w4 (gO l l)).size
    have T4 := b4.size
    have N7 := (A7.out.below b4 A7.out.lt).below (below_alloc w4 (gO l l)) (by have := A7.out.lt; omega)
    have B4' := Lib.hid (BB.alloc BB.size (gO l l))
    clear c0 c1
    clear b4 BB S4 T4
    clear A7
    have A7 := Lib.hid N7
    have A9 := Lib.hid NB9
    clear N7 NB9
    go_upto_region 7 with fail
    generalize w4.alloc (gO l l) = W4 at *
    generalize w4.heap.size = b9 at *
    obtain ⟨d0, d1⟩ := A7.out.cells
    go_wp2_with fail
    with_reducible refine (K3.out _).mono ?_
    rintro e w5 ⟨rfl, b5⟩
    have BB := bthen B4'.out b5 B4'.out.size
    have NB11 := at_new w5 l l
    have S5 := (below_alloc w5 (gO l l)).size
    have T5 := b5.size
    have N7 := (A7.out.below b5 A7.out.lt).below (below_alloc w5 (gO l l)) (by have := A7.out.lt; omega)
    have N9 := (A9.out.below b5 A9.out.lt).below (below_alloc w5 (gO l l)) (by have := A9.out.lt; omega)
    have B5' := Lib.hid (BB.alloc BB.size (gO l l))
    clear b5 BB S5 T5
    clear A7
    have A7 := Lib.hid N7
    clear A9
    have A9 := Lib.hid N9
    have A11 := Lib.hid NB11
    clear N7 N9 NB11
    clear d0 d1
    go_upto_region 8 with fail
    generalize w5.alloc (gO l l) = W5 at *
    generalize w5.heap.size = b11 at *
    obtain ⟨d0, d1⟩ := A7.out.cells
    go_wp2_with fail
    with_reducible refine (K4.out _).mono ?_
    rintro e w6 ⟨rfl, b6⟩
    have BB := bthen B5'.out b6 B5'.out.size
    have NB13 := at_new w6 l l
    have S6 := (below_alloc w6 (gO l l)).size
    have T6 := b6.size
    have N7 := (A7.out.below b6 A7.out.lt).below (below_alloc w6 (gO l l)) (by have := A7.out.lt; omega)
    have N9 := (A9.out.below b6 A9.out.lt).below (below_alloc w6 (gO l l)) (by have := A9.out.lt; omega)
    have N11 := (A11.out.below b6 A11.out.lt).below (below_alloc w6 (gO l l)) (by have := A11.out.lt; omega)
    have B6' := Lib.hid (BB.alloc BB.size (gO l l))
    clear b6 BB S6 T6
    clear A7
    have A7 := Lib.hid N7
    clear A9
    have A9 := Lib.hid N9
    clear A11
    have A11 := Lib.hid N11
    have A13 := Lib.hid NB13
    clear N7 N9 N11 NB13
    clear d0 d1
    go_upto_region 9 with fail
    generalize w6.alloc (gO l l) = W6 at *
    generalize w6.heap.size = b13 at *
    obtain ⟨d0, d1⟩ := A9.out.cells
    go_wp2_with fail
    with_reducible refine (K5.out _).mono ?_
    rintro e w7 ⟨rfl, b7⟩
    have BB := bthen B6'.out b7 B6'.out.size
    have NB15 := at_new w7 l l
    have S7 := (below_alloc w7 (gO l l)).size
    have T7 := b7.size
    have N7 := (A7.out.below b7 A7.out.lt).below (below_alloc w7 (gO l l)) (by have := A7.out.lt; omega)
    have N9 := (A9.out.below b7 A9.out.lt).below (below_alloc w7 (gO l l)) (by have := A9.out.lt; omega)
    have N11 := (A11.out.below b7 A11.out.lt).below (below_alloc w7 (gO l l)) (by have := A11.out.lt; omega)
    have N13 := (A13.out.below b7 A13.out.lt).below (below_alloc w7 (gO l l)) (by have := A13.out.lt; omega)
    have B7' := Lib.hid (BB.alloc BB.size (gO l l))
    clear b7 BB S7 T7
    clear A7
    have A7 := Lib.hid N7
    clear A9
    have A9 := Lib.hid N9
    clear A11
    have A11 := Lib.hid N11
    clear A13
    have A13 := Lib.hid N13
    have A15 := Lib.hid NB15
    clear N7 N9 N11 N13 NB15
    clear d0 d1
    go_upto_region 10 with fail
    generalize w7.alloc (gO l l) = W7 at *
    generalize w7.heap.size = b15 at *
    obtain ⟨e0, e1⟩ := A9.out.cells
    obtain ⟨e2, e3⟩ := A11.out.cells
    obtain ⟨e4, e5⟩ := A13.out.cells
    obtain ⟨e6, e7⟩ := A15.out.cells
    go_wp2
    go_ret
    exact ⟨rfl, B7'.out⟩
end Go.Proofs.Ytadoecimcbgkjaa
