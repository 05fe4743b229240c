/- The live question ahead of every statement answers true, and changes nothing that was there. Conditions: none. -/
import Derived.Test.YtncbbjodianmoaaSl
namespace Go.Proofs.Ytncbbjodianmoaa
open Go.RowKit
set_option linter.unusedSimpArgs false
set_option linter.unusedVariables false

theorem right_sml {l : List PR} (h : RightM l) : Sml l ∧ l.length ≤ 256 := by
  have h1 := szM_len l
  have h2 := h.2.2
  refine ⟨⟨by omega, fun p hp => ?_⟩, by omega⟩
  have := h.1 p hp
  omega

theorem head1 : putR [] [98] [50] = [([98], [50])] ∧ putE [] [98] [50] = 0 := by decide +kernel
theorem head2 : putR [([98], [50])] [97] [49] = [([97], [49]), ([98], [50])] ∧ putE [([98], [50])] [97] [49] = 0 := by decide +kernel
theorem head3 : getM [([97], [49]), ([98], [50])] [98] = [50] ∧ hasM [([97], [49]), ([98], [50])] [98] = true ∧ szM [([97], [49]), ([98], [50])] = 20 := by decide +kernel
theorem head4 : decide (RightM [([97], [49]), ([98], [50])]) = true := by decide +kernel
theorem head5 : strOfNums [97] = ⟨#[97]⟩ ∧ strOfNums [50] = ⟨#[50]⟩ := by decide +kernel

/-- two constant strings' bytes, laid one behind the other -/
theorem two_marked (w : World) (x y : Int) (hx : 0 ≤ x ∧ x < 256) (hy : 0 ≤ y ∧ y < 256) :
    (convert 30 30 (.slice (some ⟨w.heap.size, 0, none⟩) 1 1)).run Try.prog (w.alloc (.cells #[.int .u8 x] 5)) = .ok (.slice (some ⟨w.heap.size, 0, none⟩) 1 1) (w.alloc (.cells #[.int .u8 x] 5 (1, 2))) ∧
    (convert 30 30 (.slice (some ⟨w.heap.size + 1, 0, none⟩) 1 1)).run Try.prog ((w.alloc (.cells #[.int .u8 x] 5 (1, 2))).alloc (.cells #[.int .u8 y] 5)) = .ok (.slice (some ⟨w.heap.size + 1, 0, none⟩) 1 1) ((w.alloc (.cells #[.int .u8 x] 5 (1, 2))).alloc (.cells #[.int .u8 y] 5 (1, 2))) ∧
    Hid (SB ((w.alloc (.cells #[.int .u8 x] 5 (1, 2))).alloc (.cells #[.int .u8 y] 5 (1, 2))) ((w.alloc (.cells #[.int .u8 x] 5 (1, 2))).alloc (.cells #[.int .u8 y] 5 (1, 2))).heap.size (.slice (some ⟨w.heap.size, 0, none⟩) 1 1) [x] ∧
      SB ((w.alloc (.cells #[.int .u8 x] 5 (1, 2))).alloc (.cells #[.int .u8 y] 5 (1, 2))) ((w.alloc (.cells #[.int .u8 x] 5 (1, 2))).alloc (.cells #[.int .u8 y] 5 (1, 2))).heap.size (.slice (some ⟨w.heap.size + 1, 0, none⟩) 1 1) [y] ∧
      Below w.heap.size w ((w.alloc (.cells #[.int .u8 x] 5 (1, 2))).alloc (.cells #[.int .u8 y] 5 (1, 2)))) := by
  have m1 := run_marked w #[.int .u8 x] 1 1
  have m2 := run_marked (w.alloc (.cells #[.int .u8 x] 5 (1, 2))) #[.int .u8 y] 1 1
  simp only [World.size_alloc] at m2
  have b1 := below_alloc w (.cells #[.int .u8 x] 5 (1, 2))
  have b2 := below_alloc (w.alloc (.cells #[.int .u8 x] 5 (1, 2))) (.cells #[.int .u8 y] 5 (1, 2))
  have s1 : SB (w.alloc (.cells #[.int .u8 x] 5 (1, 2))) (w.alloc (.cells #[.int .u8 x] 5 (1, 2))).heap.size (.slice (some ⟨w.heap.size, 0, none⟩) 1 1) [x] :=
    ⟨_, 1, rfl, Nat.le_refl _, by unfold maxLen; omega, (lies_new w [x] 1 (1, 2)).more (by simp), by intro b hb; simp at hb; omega⟩
  have s2 : SB ((w.alloc (.cells #[.int .u8 x] 5 (1, 2))).alloc (.cells #[.int .u8 y] 5 (1, 2))) ((w.alloc (.cells #[.int .u8 x] 5 (1, 2))).alloc (.cells #[.int .u8 y] 5 (1, 2))).heap.size (.slice (some ⟨w.heap.size + 1, 0, none⟩) 1 1) [y] := by
    have := lies_new (w.alloc (.cells #[.int .u8 x] 5 (1, 2))) [y] 1 (1, 2)
    simp only [World.size_alloc] at this
    exact ⟨_, 1, rfl, Nat.le_refl _, by unfold maxLen; omega, this.more (by simp), by intro b hb; simp at hb; omega⟩
  exact ⟨m1, m2, s1.on b2, s2, b1.trans (b2.mono b1.size)⟩

end Go.Proofs.Ytncbbjodianmoaa
