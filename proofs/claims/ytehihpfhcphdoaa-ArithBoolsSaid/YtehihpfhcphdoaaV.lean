/- What the two functions of ArithBools return. Conditions: those in each theorem. -/
import Derived.Test.YtehihpfhcphdoaaH
namespace Go.Proofs.Ytehihpfhcphdoaa
open Go.RowKit
set_option maxRecDepth 100000

set_option maxHeartbeats 800000 in
/-- 'one' of any sign and value that 'One' answers with r -/
theorem oneF (S : ByteArray) (t n : Int) (r : Ans) (h1 : ∀ w, Calls Try.prog 15 #[.string S, VV t n nilS] w fun e w' => e = .returned (AV r) ∧ Below w.heap.size w w') (w : World) :
    Calls Try.prog 14 #[.string S, VV t n nilS] w fun e w' => e = .returned (VV r.t r.n nilS) ∧ Below w.heap.size w w' := by
  have H0 := Lib.hid (two_cells w t n nilS)
  have K := Lib.hid h1
  clear h1
  go_enter Try.func14, Try.ntmps14
  go_wp2_with fail
  refine (K.out _).mono ?_
  rintro e w1 ⟨rfl, hb1⟩
  have s1 := hb1.size
  simp only [World.size_alloc] at s1
  have HZ := (H0.out.2.1.below hb1 (by simp)).below (below_alloc w1 (vO r.t r.n nilS)) (by omega)
  have B1 := Lib.hid ((H0.out.2.2.trans (hb1.mono (by simp; omega))).alloc (by omega) (vO r.t r.n nilS))
  clear hb1
  go_wp2_with (refine wpList_storeN info26s rfl (.tmp 4) (.tmp 13) rfl rfl (w.heap.size + 1) rfl [_, _, _] rfl rfl HZ.2 (by simp [Value.oneCell']) ?_; intro w4 g1 g2 g3 g4 g5)
  refine bodyPost_ret (ret_cell (cs := [_, _, _]) Try.results14 Try.underlying26 rfl info26s _ _ (w.heap.size + 1) rfl g1) rfl ?_
  exact ⟨rfl, B1.out.trans (g3.mono (by omega))⟩
set_option maxHeartbeats 800000 in
/-- 'two' of any sign and values that 'Two' answers with r -/
theorem twoF (S : ByteArray) (t n t' n' : Int) (r : Ans) (h1 : ∀ w, Calls Try.prog 10 #[.string S, VV t n nilS, VV t' n' nilS] w fun e w' => e = .returned (AV r) ∧ Below w.heap.size w w') (w : World) :
    Calls Try.prog 16 #[.string S, VV t n nilS, VV t' n' nilS] w fun e w' => e = .returned (VV r.t r.n nilS) ∧ Below w.heap.size w w' := by
  have H0 := Lib.hid (three_new w t n t' n' nilS nilS)
  have K := Lib.hid h1
  clear h1
  go_enter Try.func16, Try.ntmps16
  go_wp2_with fail
  refine (K.out _).mono ?_
  rintro e w1 ⟨rfl, hb1⟩
  have H1 := Lib.hid ((H0.out.below hb1).below (below_alloc w1 (vO r.t r.n nilS)))
  clear hb1
  go_wp2_with (refine wpList_storeN info26s rfl (.tmp 6) (.tmp 16) rfl rfl (w.heap.size + 1 + 1) rfl [_, _, _] rfl rfl H1.out.z.2 (by simp [Value.oneCell']) ?_; intro w4 g1 g2 g3 g4 g5)
  refine bodyPost_ret (ret_cell (cs := [_, _, _]) Try.results16 Try.underlying26 rfl info26s _ _ (w.heap.size + 1 + 1) rfl g1) rfl ?_
  exact ⟨rfl, H1.out.bl.trans (g3.mono (by omega))⟩
theorem bool_lit (b : Bool) (n : Int) (h : b2i b = n) (w : World) : Calls Try.prog 17 #[.bool b] w fun e w' => e = .returned (VV 2 n nilS) ∧ Below w.heap.size w w' := by
  subst h
  exact boolC b w
theorem not_lit (n m : Int) (h : b2i (!(n == 1)) = m) (w : World) : Calls Try.prog 14 #[.string ⟨#[33]⟩, VV 2 n nilS] w fun e w' => e = .returned (VV 2 m nilS) ∧ Below w.heap.size w w' := by
  subst h
  exact oneF ⟨#[33]⟩ 2 n ⟨2, _, 0⟩ (fun w => oneNot n nilS w) w
theorem two_lit (S : ByteArray) (f : Bool → Bool → Bool) (hrow : ∀ w, Calls Try.prog 19 #[.string S] w (RowB f w)) (i j m : Int) (h : b2i (f (i == 1) (j == 1)) = m) (w : World) : Calls Try.prog 16 #[.string S, VV 2 i nilS, VV 2 j nilS] w fun e w' => e = .returned (VV 2 m nilS) ∧ Below w.heap.size w w' := by
  subst h
  exact twoF S 2 i 2 j ⟨2, _, 0⟩ (fun w => twoB S f hrow i j w) w
theorem row_eqB (w : World) : Calls Try.prog 19 #[.string ⟨#[61, 61]⟩] w (RowB (fun a b => a == b) w) := (row_eq w).mono fun _ _ h => h.bools
theorem row_neB (w : World) : Calls Try.prog 19 #[.string ⟨#[33, 61]⟩] w (RowB (fun a b => !(a == b)) w) := (row_ne w).mono fun _ _ h => h.bools
end Go.Proofs.Ytehihpfhcphdoaa
