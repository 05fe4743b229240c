/- The walk of MeterTells: it returns true, and nothing that was there has changed. Conditions: numbers are of 64 bits. -/
import Derived.Test.YtadoecimcbgkjaaC
import Derived.Deep.DeepCutAuto
namespace Go.Proofs.Ytadoecimcbgkjaa
open Go.RowKit
set_option linter.unusedVariables false
set_option maxRecDepth 100000
set_option maxHeartbeats 1600000 in
theorem tells_walk (limit l u n key value : Int) (w : World) (hl : fits l) (hu : fits u) (hn : fits n) (hk : fits key) : Calls Try.prog 3 #[.int .i64 limit, GV l u, .int .i64 n, .int .i64 key, .int .i64 value] w fun e w' => e = .returned (.bool true) ∧ Below w.heap.size w w' := by
  obtain ⟨u', hu'⟩ : ∃ x, useU l u n = x := ⟨_, rfl⟩
  obtain ⟨is, his⟩ : ∃ x, useB l u n = x := ⟨_, rfl⟩
  obtain ⟨a, ha⟩ : ∃ x, newL limit = x := ⟨_, rfl⟩
  obtain ⟨c, hc⟩ : ∃ x, cost (max key 0) = x := ⟨_, rfl⟩
  obtain ⟨d, hd⟩ : ∃ x, putN key value = x := ⟨_, rfl⟩
  have K1 := Lib.hid (useL l u n u' is hl hu hn his hu')
  have K2 : Hid (∀ w, Calls Try.prog 9 #[GV l u, .int .i64 n] w fun e w' => e = .returned (.tuple #[GV l u', .bool is]) ∧ Below w.heap.size w w') := fun w => by rw [← hu', ← his]; exact refUseC l u n w hl hu hn
  have K3 := Lib.hid (newLit limit a ha)
  have K4 : Hid (∀ w, Calls Try.prog 11 #[.int .i64 limit] w fun e w' => e = .returned (GV a 0) ∧ Below w.heap.size w w') := fun w => by rw [← ha]; exact refNewC limit w
  have K5 := Lib.hid (textsL key c hk hc)
  have K6 : Hid (∀ w, Calls Try.prog 13 #[.int .i64 key] w fun e w' => e = .returned (.int .i64 c) ∧ w' = w) := fun w => by rw [← hc]; exact refTextsC key w hk
  have K7 := Lib.hid (putL key value d hd)
  have K8 : Hid (∀ w, Calls Try.prog 15 #[.int .i64 key, .int .i64 value] w fun e w' => e = .returned (.int .i64 d) ∧ w' = w) := fun w => by rw [← hd]; exact refPutC key value w
  clear hu' his ha hc hd hl hu hn hk
  have A0 := at_new w l u
  have B0 := Lib.hid (below_alloc w (gO l u))
  have L0 := A0.lt
  go_enter Try.func3, Try.ntmps3
  go_upto_region 1 with fail
  generalize w.alloc (gO l u) = W0 at *
  go_wp2_with fail
  with_reducible refine (head_true _).mono ?_
  rintro e w1 ⟨rfl, b1⟩
  have A1 := Lib.hid (A0.below b1 L0)
  have B1 := Lib.hid (bthen B0.out b1 B0.out.size)
  clear b1 A0 B0 L0
  obtain ⟨c0, c1⟩ := A1.out.cells
  go_wp2_with fail
  with_reducible refine (K1.out _).mono ?_
  rintro e w2 ⟨rfl, b2⟩
  have BB := bthen B1.out b2 B1.out.size
  have A2 := Lib.hid ((A1.out.below b2 A1.out.lt).below (below_alloc w2 (gO l u')) (by have := A1.out.lt; have := b2.size; omega))
  have B2 := Lib.hid (BB.alloc BB.size (gO l u'))
  have NA := Lib.hid (at_new w2 l u')
  clear BB b2 A1 B1 c0 c1
  go_upto_region 3 with fail
  generalize w2.alloc (gO l u') = W2 at *
  generalize w2.heap.size = b2 at *
  obtain ⟨c0, c1⟩ := A2.out.cells
  go_wp2_with fail
  with_reducible refine (K2.out _).mono ?_
  rintro e w3 ⟨rfl, b3⟩
  have BB := bthen B2.out b3 B2.out.size
  have NA3 := Lib.hid ((NA.out.below b3 NA.out.lt).below (below_alloc w3 (gO l u')) (by have := NA.out.lt; have := b3.size; omega))
  have B3 := Lib.hid (BB.alloc BB.size (gO l u'))
  have NR := Lib.hid (at_new w3 l u')
  clear BB b3 A2 B2 c0 c1 NA
  go_upto_region 4 with fail
  generalize w3.alloc (gO l u') = W3 at *
  generalize w3.heap.size = b3 at *
  go_wp2_with fail
  with_reducible refine (K3.out _).mono ?_
  rintro e w4 ⟨rfl, b4⟩
  have NA4 := Lib.hid (NA3.out.below b4 NA3.out.lt)
  have NR4 := Lib.hid (NR.out.below b4 NR.out.lt)
  have B4 := Lib.hid (bthen B3.out b4 B3.out.size)
  clear b4 NA3 NR B3
  go_wp2_with fail
  with_reducible refine (K4.out _).mono ?_
  rintro e w5 ⟨rfl, b5⟩
  have NA5 := Lib.hid (NA4.out.below b5 NA4.out.lt)
  have NR5 := Lib.hid (NR4.out.below b5 NR4.out.lt)
  have B5 := Lib.hid (bthen B4.out b5 B4.out.size)
  clear b5 NA4 NR4 B4
  obtain ⟨c0, c1⟩ := NA5.out.cells
  obtain ⟨d0, d1⟩ := NR5.out.cells
  go_wp2_with fail
  with_reducible refine (K5.out _).mono ?_
  rintro e w6 ⟨rfl, b6⟩
  have B6 := Lib.hid (bthen B5.out b6 B5.out.size)
  clear b6 B5 NA5 NR5 c0 c1 d0 d1
  go_wp2_with fail
  with_reducible refine (K6.out _).mono ?_
  rintro e w7 ⟨rfl, rfl⟩
  go_wp2_with fail
  with_reducible refine (K7.out _).mono ?_
  rintro e w8 ⟨rfl, b8⟩
  have B8 := Lib.hid (bthen B6.out b8 B6.out.size)
  clear b8 B6
  go_wp2_with fail
  with_reducible refine (K8.out _).mono ?_
  rintro e w9 ⟨rfl, rfl⟩
  go_wp2
  go_ret
  exact ⟨rfl, B8.out⟩
end Go.Proofs.Ytadoecimcbgkjaa
