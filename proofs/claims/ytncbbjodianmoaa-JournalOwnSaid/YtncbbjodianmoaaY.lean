/- What the document's own 'size', 'Bytes' and 'Row' return, at every offset: the same as the program's. Conditions: none beyond what a slice is. -/
import Derived.Test.YtncbbjodianmoaaX
import Derived.Deep.QuietTactic
import Derived.BigQuiet
import Derived.Deep.DeepCutAuto
namespace Go.Proofs.Ytncbbjodianmoaa
open Go.RowKit

theorem take4_of {L : List Int} {b0 b1 b2 b3 : Int} (h0 : L[0]? = some b0) (h1 : L[1]? = some b1) (h2 : L[2]? = some b2) (h3 : L[3]? = some b3) : L.take 4 = [b0, b1, b2, b3] := by
  match L, h0, h1, h2, h3 with
  | a :: b :: c :: d :: r, h0, h1, h2, h3 => simp at h0 h1 h2 h3; subst h0 h1 h2 h3; rfl
theorem or4 {b0 b1 b2 b3 : Int} (h0 : 0 ≤ b0 ∧ b0 < 256) (h1 : 0 ≤ b1 ∧ b1 < 256) (h2 : 0 ≤ b2 ∧ b2 < 256) (h3 : 0 ≤ b3 ∧ b3 < 256) :
    bits .or .i64 (bits .or .i64 (bits .or .i64 (b0 * 16777216) (b1 * 65536)) (b2 * 256)) b3 = val [b0, b1, b2, b3] := by
  rw [or64 24 (b0 * 16777216) (b1 * 65536) (by omega) (by omega) (by omega) (by omega), IntWalk.wrap64_in _ ⟨by omega, by omega⟩]
  rw [or64 16 (b0 * 16777216 + b1 * 65536) (b2 * 256) (by omega) (by omega) (by omega) (by omega), IntWalk.wrap64_in _ ⟨by omega, by omega⟩]
  rw [or64 8 (b0 * 16777216 + b1 * 65536 + b2 * 256) b3 (by omega) (by omega) (by omega) (by omega), IntWalk.wrap64_in _ ⟨by omega, by omega⟩]
  simp only [val, List.foldl_cons, List.foldl_nil]
  omega

/-- what 'size' returns -/
def SizeIs (w : World) (n q E : Int) (e : Ending) (w' : World) : Prop := e = .returned (.tuple #[.int .i64 n, .int .i64 q, .int .i64 E]) ∧ Below w.heap.size w w'

/-- what the loop of the document's 'Row' keeps -/
def RefRel (w : World) (l : List Int) (q : Int) (k : Nat) (v : Value) (wr : World) : Prop :=
  ∃ vs : List Value, vs.length = k ∧ wr.ownsRow w.heap.size 30 1 v k vs ∧ Below w.heap.size w wr ∧
    ∀ (j : Nat) (x : Value), vs[j]? = some x → wr.ownsRow w.heap.size 5 1 x (bytesA l (offs l q j)).length (cellsOf (bytesA l (offs l q j)))
theorem RefRel.step {w wr w2 w4 : World} {l : List Int} {q : Int} {k : Nat} {v v' x : Value} {vs : List Value} (hv : vs.length = k) (ho : wr.ownsRow w.heap.size 30 1 v k vs) (hbw : Below w.heap.size w wr)
    (hall : ∀ (j : Nat) (x : Value), vs[j]? = some x → wr.ownsRow w.heap.size 5 1 x (bytesA l (offs l q j)).length (cellsOf (bytesA l (offs l q j))))
    (hb : Below wr.heap.size wr w2) (h3 : w2.ownsRow wr.heap.size 5 1 x (bytesA l (offs l q k)).length (cellsOf (bytesA l (offs l q k)))) {o : Obj}
    (ho4 : w4.ownsRow w.heap.size 30 1 v' (k + 1) (vs ++ [x])) (hg4 : (w2.alloc o).grownBy w4 v.ownBlock) : RefRel w l q (k + 1) v' w4 := by
  have hsz := hbw.size
  have hsz2 := hb.size
  have ho2 := (own_below ho hb (Nat.le_refl _)).alloc o
  refine ⟨vs ++ [x], by simp [hv], ho4, ((hbw.trans (hb.mono hsz)).alloc (by omega) o).grown hg4 (by simp; omega) (fun k hk => (ho.lt k hk).1), fun j y hj => ?_⟩
  by_cases hjk : j < k
  · rw [List.getElem?_append_left (by omega)] at hj
    have g := (own_below (hall j y hj) hb (Nat.le_refl _)).alloc o
    exact g.kept hg4 (own_ne g ho2)
  · have hjk' : j = k := by
      have := (List.getElem?_eq_some_iff.1 hj).1
      simp [hv] at this
      omega
    subst hjk'
    rw [List.getElem?_append_right (by omega)] at hj
    simp [hv] at hj
    subst hj
    have g := (own_mono h3 hsz).alloc o
    exact g.kept hg4 (own_ne g ho2)
theorem RefRel.fin {w wr : World} {l : List Int} {q : Int} {n : Nat} {v : Value} (h : RefRel w l q n v wr) : GridO wr w.heap.size v (items l q n) := by
  obtain ⟨vs, hv, ho, _, hall⟩ := h
  refine ⟨vs, by rw [items_length]; exact hv, by rw [items_length]; exact ho, fun j x l' hx hl' => ?_⟩
  have hj : j < n := by
    have := (List.getElem?_eq_some_iff.1 hl').1
    simpa [items_length] using this
  rw [items_at hj] at hl'
  injection hl' with hl'
  subst hl'
  exact hall j x hx

end Go.Proofs.Ytncbbjodianmoaa
