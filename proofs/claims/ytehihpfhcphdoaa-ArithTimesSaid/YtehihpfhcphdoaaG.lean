/- The live question ahead of every statement answers true, and changes nothing that was there. Conditions: none. -/
import Derived.Test.YtehihpfhcphdoaaF
namespace Go.Proofs.Ytehihpfhcphdoaa
open Go.RowKit

theorem bthen {w a b : World} (h : Below w.heap.size w a) (k : Below a.heap.size a b) : Below w.heap.size w b := h.trans (k.mono h.size)
theorem head_a : divAns Int.tdiv (-7) 2 = ⟨1, -3, 0⟩ := by unfold divAns; rw [if_neg (by decide), if_neg (by decide)]; rfl
theorem head_b : ansOf (9223372036854775807 + 1) = ⟨0, 0, 3⟩ := ansOf_not (by decide)
theorem twoI_lit (S : ByteArray) (f : Int → Int → Ans) (hrow : ∀ w, Calls Try.prog 19 #[.string S] w (RowI f w)) (a b : Int) (w : World) (ha : fits a) (hb : fits b) (r : Ans) (hr : f a b = r) :
    Calls Try.prog 10 #[.string S, VV 1 a nilS, VV 1 b nilS] w fun e w' => e = .returned (AV r) ∧ Below w.heap.size w w' := by
  subst hr
  exact twoI S f hrow a b nilS nilS w ha hb
set_option maxHeartbeats 1600000 in
theorem head_true (w : World) : Calls Try.prog 9 #[] w fun e w' => e = .returned (.bool true) ∧ Below w.heap.size w w' := by
  go_enter Try.func9, Try.ntmps9
  go_wp2_with fail
  refine (numC _ _).mono ?_
  rintro e w1 ⟨rfl, hb1⟩
  go_wp2_with fail
  refine (numC _ _).mono ?_
  rintro e w2 ⟨rfl, hb2⟩
  go_wp2_with fail
  refine (twoI_lit _ _ row_quo (-7) 2 _ (by decide) (by decide) _ head_a).mono ?_
  rintro e w3 ⟨rfl, hb3⟩
  have bw := Lib.hid ((hb1.trans (hb2.mono hb1.size)).trans (hb3.mono (Nat.le_trans hb1.size hb2.size)))
  clear hb1 hb2 hb3
  go_wp2_with fail
  refine (numC _ _).mono ?_
  rintro e w4 ⟨rfl, hb4⟩
  go_wp2_with fail
  refine (numC _ _).mono ?_
  rintro e w5 ⟨rfl, hb5⟩
  go_wp2_with fail
  refine (twoI_lit _ _ row_plus 9223372036854775807 1 _ (by decide) (by decide) _ head_b).mono ?_
  rintro e w6 ⟨rfl, hb6⟩
  have b6 : Below (w3.alloc (vO 1 (-3) nilS)).heap.size (w3.alloc (vO 1 (-3) nilS)) w6 := (hb4.trans (hb5.mono hb4.size)).trans (hb6.mono (Nat.le_trans hb4.size hb5.size))
  have A6 := Lib.hid ((at_new w3 1 (-3) nilS).below b6 (by simp))
  replace bw : Hid (Below w.heap.size w w6 ∧ w.heap.size ≤ w6.heap.size) := by
    have h := (bw.out.alloc bw.out.size (vO 1 (-3) nilS)).trans (b6.mono (Nat.le_trans bw.out.size (by simp)))
    exact ⟨h, h.size⟩
  have s6 := b6.size
  simp only [World.size_alloc] at s6
  clear hb4 hb5 hb6 b6
  go_wp2_with fail
  refine (boolC _ _).mono ?_
  rintro e w7 ⟨rfl, hb7⟩
  go_wp2_with fail
  refine (oneNot _ _ _).mono ?_
  rintro e w8 ⟨rfl, hb8⟩
  have b8 : Below (w6.alloc (vO 0 0 nilS)).heap.size (w6.alloc (vO 0 0 nilS)) w8 := hb7.trans (hb8.mono hb7.size)
  have A8 := Lib.hid (((A6.out.below (below_alloc w6 (vO 0 0 nilS)) (by omega)).below b8 (by simp; omega)).below (below_alloc w8 (vO 2 1 nilS)) (by have := b8.size; simp at this; omega))
  have s8 := b8.size
  simp only [World.size_alloc] at s8
  replace bw : Hid (Below w.heap.size w w8 ∧ w.heap.size ≤ w8.heap.size) := by
    have h := (bw.out.1.alloc bw.out.2 (vO 0 0 nilS)).trans (b8.mono (Nat.le_trans bw.out.2 (by simp)))
    exact ⟨h, h.size⟩
  clear hb7 hb8 b8
  rw [show b2i (!(b2i false == 1)) = 1 from rfl]
  have hm := run_marked (w8.alloc (vO 2 1 nilS)) (cellsOf [97]).toArray 1 1
  simp only [cellsOf, List.map_cons, List.map_nil, List.size_toArray, List.length_cons, List.length_nil, World.size_alloc] at hm
  have hx := A8.out.cells.2.1
  have L1 := Lib.hid (lies_new (w8.alloc (vO 2 1 nilS)) [97] 1 (0 + 1, 0 + 1 + 1))
  go_wp2_with fail
  clear hm hx
  refine (textC _ [97] 1 1 rfl _ (by have := L1.out; simpa using this) (by omega)).mono ?_
  rintro e w9 ⟨A9, c9, rfl, _, _, h9, _, hb9⟩
  have hm := run_marked w9 (cellsOf [97]).toArray 1 1
  simp only [cellsOf, List.map_cons, List.map_nil, List.size_toArray, List.length_cons, List.length_nil] at hm
  have H9 := Lib.hid h9
  clear h9
  go_wp2_with fail
  clear hm
  have L2 := lies_new w9 [97] 1 (0 + 1, 0 + 1 + 1)
  refine (textC _ [97] 1 1 rfl _ (by simpa using L2) (by omega)).mono ?_
  rintro e w10 ⟨A10, c10, rfl, _, _, h10, _, hb10⟩
  have H10 := Lib.hid h10
  clear h10 L2
  go_wp2_with fail
  have b10 := (below_alloc w9 (.cells #[.int .u8 97] 5 (1, 1 + 1))).trans (hb10.mono (by simp))
  refine (sameC _ _ _ _ [97] 1 _ _ rfl _ ((H9.out.below b10).more b10.size) H10.out).mono ?_
  rintro e w11 ⟨rfl, hb11⟩
  go_wp2
  go_ret
  have b9 : Below w8.heap.size w8 w9 := (below_two w8 _ _).trans (hb9.mono (by simp; omega))
  exact ⟨rfl, bthen (bthen (bthen bw.out.1 b9) b10) hb11⟩
end Go.Proofs.Ytehihpfhcphdoaa
