/- Where the orders of a statement meet again: a new variable, made before or behind a call. Conditions: those in each theorem. -/
import Derived.Test.YtehihpfhcphdoaaG
import Derived.Deep.DeepCutAuto
namespace Go.Proofs.Ytehihpfhcphdoaa
open Go.RowKit

theorem meet_new {W w8 : World} {t n : Int} (hbl : Below W.heap.size W w8) : W.heap.size ≤ w8.heap.size ∧ Below W.heap.size W (w8.alloc (.cells #[.int .i64 t, .int .i64 n, .slice none 0 0] 26)) ∧ At (w8.alloc (.cells #[.int .i64 t, .int .i64 n, .slice none 0 0] 26)) w8.heap.size t n nilS := ⟨hbl.size, hbl.alloc hbl.size _, at_new _ _ _ _⟩
theorem meet_zero {W w8 : World} (hbl : Below W.heap.size W w8) : Below W.heap.size W (w8.alloc (.cells #[.int .i64 0, .int .i64 0, .slice none 0 0] 26)) := hbl.alloc hbl.size _
theorem meet_cells {W w8 : World} {g : Nat} {t n : Int} (hbl : Below W.heap.size W w8) (hg : W.heap.size ≤ g) (hz : At w8 g 0 0 nilS) :
    W.heap.size ≤ g ∧ Below W.heap.size W (((w8.setCell ⟨g, 0, none⟩ (.int .i64 t)).setCell ⟨g, 1, none⟩ (.int .i64 n)).setCell ⟨g, 2, none⟩ (.slice none 0 0)) ∧ At (((w8.setCell ⟨g, 0, none⟩ (.int .i64 t)).setCell ⟨g, 1, none⟩ (.int .i64 n)).setCell ⟨g, 2, none⟩ (.slice none 0 0)) g t n nilS :=
  ⟨hg, hbl.trans ((below_cells g 0 [.int .i64 t, .int .i64 n, .slice none 0 0] w8).1.mono hg), World.rangeAt_setCells_same w8 g 0 [.int .i64 t, .int .i64 n, .slice none 0 0] hz.2, World.there_setCells hz.2 g 0 [.int .i64 t, .int .i64 n, .slice none 0 0]⟩
end Go.Proofs.Ytehihpfhcphdoaa
