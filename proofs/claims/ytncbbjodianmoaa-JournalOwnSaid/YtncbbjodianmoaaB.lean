/- What 'appendInt' appends to a slice of the call's own: the bytes of the number, the most significant first. Conditions: the slice is the call's own. -/
import Derived.Test.YtncbbjodianmoaaA
import Derived.Test.YtncbbjodianmoaaPlain
namespace Go.Proofs.Ytncbbjodianmoaa
open Go.RowKit
theorem info5 : (Try.prog.info? 5).map (fun i => (i.zero, i.size, i.bytes)) = some (some (.int .u8 0), 1, 1) := by kernel_rfl

theorem own_step {w wr w1 : World} {base m k : Nat} {v v' : Value} {xs : List Value} {n : Int} {top : Nat} (hb : Below base w wr) (hbase : base ≤ w.heap.size)
    (ho : wr.ownsRow base 5 1 v (m + k) (xs ++ cellsOf (be n top k))) {o : Obj}
    (h1 : w1.ownsRow base 5 1 v' (m + k + 1) (xs ++ (cellsOf (be n top k) ++ [.int .u8 (n / 2 ^ (8 * (top - k)) % 256)]))) (hg : (wr.alloc o).grownBy w1 v.ownBlock) :
    w1.ownsRow base 5 1 v' (m + (k + 1)) (xs ++ cellsOf (be n top (k + 1))) ∧ Below base w w1 := by
  refine ⟨?_, ?_⟩
  · rw [be_succ, cellsOf, List.map_append]
    exact h1
  · have := hb.size
    exact (hb.alloc (by omega) o).grown hg (by simp; omega) (fun k hk => (ho.lt k hk).1)

end Go.Proofs.Ytncbbjodianmoaa
