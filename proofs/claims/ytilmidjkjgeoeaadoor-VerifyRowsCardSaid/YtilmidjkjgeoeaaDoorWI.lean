/- A code in a block of the law's own, to which instructions are appended. Conditions: those in each theorem. -/
import Derived.Test.YtilmidjkjgeoeaaDoorWH
namespace Go.Proofs.YtilmidjkjgeoeaaDoor
open Go.RowKit Go.MapKept
set_option maxRecDepth 100000
set_option linter.unusedVariables false
set_option linter.unusedSimpArgs false
def rwO (r : Int) (V : Value) : Obj := .cells #[.string ⟨#[102]⟩, .slice none 0 0, .int .i64 r, .int .i64 0, V] 30 (0, 0)
structure RowsS (w0 : World) (b : Nat) (r : Int) (ins : List (Int × Int)) (V : Value) (w : World) : Prop where
  cell : w.heap[b]? = some (rwO r V)
  own : w.ownsRow w0.heap.size 35 2 V ins.length (insV ins)
  low : Below w0.heap.size w0 w
  hb : w0.heap.size ≤ b
theorem info35a : (Tryd.prog.info? 35).map (fun i => (i.zero, i.size, i.bytes)) = some (some (.agg #[.int .i64 0, .int .i64 0]), 2, 16) := by kernel_rfl
/-- what the append's result leaves, the instruction's block laid ahead of it -/
theorem RowsS.app {w0 w w3 : World} {b : Nat} {r k a : Int} {ins : List (Int × Int)} {V V' : Value} (h : RowsS w0 b r ins V w) (ho : w3.ownsRow w0.heap.size 35 2 V' (ins.length + 1) (insV ins ++ [.int .i64 k, .int .i64 a]))
    (hg : (w.alloc (.cells #[.int .i64 k, .int .i64 a] 35)).grownBy w3 V.ownBlock) : w3.heap[b]? = some (rwO r V) ∧ RowsS w0 b r (ins ++ [(k, a)]) V' (w3.setCell ⟨b, 4, none⟩ V') := by
  have hg2 : w.grownBy w3 V.ownBlock := (World.grownBy_alloc w _ _).trans hg
  have hne : ∀ g, V.ownBlock = some g → g ≠ b := fun g e e2 => by
    subst e2
    obtain ⟨_, cs, h'⟩ := own_tag h.own e
    exact absurd (one_tag h.cell h') (by decide)
  have hc : w3.heap[b]? = some (rwO r V) := by
    rw [hg2.block b (lt_someV h.cell) fun e => hne _ e.symm rfl]
    exact h.cell
  have O := One.set w3 b 4 V'
  have hv : ∀ g, V'.ownBlock = some g → g ≠ b := fun g e e2 => by
    subst e2
    obtain ⟨_, cs, h'⟩ := own_tag ho e
    exact absurd (one_tag hc h') (by decide)
  refine ⟨hc, ?_, ?_, ?_, h.hb⟩
  · have := heap_setCell_same w3 b 4 _ 30 V' hc
    rw [this]
    rfl
  · rw [insV_snoc, List.length_append, List.length_singleton]
    exact own_same ho fun g cs e hq => by rw [O.far g (hv g e)]; exact hq
  · have h1 : Below w0.heap.size w0 w3 := h.low.trans ⟨hg2.os, hg2.tape, hg2.output, hg2.size, fun i hi => hg2.block i (Nat.lt_of_lt_of_le hi h.low.size) fun e => by
      have := (own_tag h.own e.symm).1
      omega⟩
    exact h1.trans (O.below h.hb)
theorem RowsS.cells {w0 w : World} {b : Nat} {r : Int} {ins : List (Int × Int)} {V : Value} (h : RowsS w0 b r ins V w) : w.cell? ⟨b, 4, none⟩ = some V ∧ w.frozen? ⟨b, 4, none⟩ = false := by
  have hc := h.cell
  unfold rwO at hc
  constructor <;> simp [World.cell?, World.frozen?, hc]
/-- what stands ahead of the append: the row, and the instruction in its block -/
theorem RowsS.ahead {w0 w : World} {b : Nat} {r k a : Int} {ins : List (Int × Int)} {V : Value} (h : RowsS w0 b r ins V w) :
    (w.alloc (.cells #[.int .i64 k, .int .i64 a] 35)).ownsRow w0.heap.size 35 2 V ins.length (insV ins) ∧
    (∀ (i : Nat) (u : Value), [Value.int .i64 k, Value.int .i64 a][i]? = some u → (w.alloc (.cells #[.int .i64 k, .int .i64 a] 35)).cell? ((Addr.mk w.heap.size 0 none).add i) = some u) ∧
    w0.heap.size ≤ (w.alloc (.cells #[.int .i64 k, .int .i64 a] 35)).heap.size := by
  refine ⟨own_same h.own fun g cs e hq => ?_, fun i u hu => ?_, ?_⟩
  · rw [(below_alloc w _).block g (lt_someV hq)]
    exact hq
  · rw [Addr.add_mid]
    exact rangeV_of (cs := [Value.int .i64 k, Value.int .i64 a]) (heap_alloc_new w (.cells #[.int .i64 k, .int .i64 a] 35)) i u hu
  · rw [size_al]
    have := h.low.size
    omega
theorem rw_cells {w : World} {b : Nat} {r : Int} {V : Value} (h : w.heap[b]? = some (rwO r V)) : w.cell? ⟨b, 4, none⟩ = some V ∧ w.frozen? ⟨b, 4, none⟩ = false := by
  unfold rwO at h
  constructor <;> simp [World.cell?, World.frozen?, h]
theorem own_row {w : World} {B T n : Nat} {V : Value} {xs : List Value} (h : w.ownsRow B T 2 V n xs) (hn : 0 < n) : RowL w w.heap.size n xs V := by
  obtain ⟨g, c, cur, rfl, q1, q2, q3, q4, q5, q6⟩ := own_pos h hn
  exact ⟨_, c, rfl, q1, q2, (fun e => by cases e), fun j u hu => ⟨_, rfl, lt_someV q4, by rw [Addr.add_mid, Nat.zero_add]; exact cell_at q4 (q6 j u hu)⟩⟩
theorem RowsS.res {w0 w : World} {b : Nat} {ins : List (Int × Int)} {V : Value} (h : RowsS w0 b 0 ins V w) : RowsS w0 b 1 ins V (w.setCell ⟨b, 2, none⟩ (.int .i64 1)) := by
  have O := One.set w b 2 (.int .i64 1)
  have hv : ∀ g, V.ownBlock = some g → g ≠ b := fun g e e2 => by
    subst e2
    obtain ⟨_, cs, h'⟩ := own_tag h.own e
    exact absurd (one_tag h.cell h') (by decide)
  refine ⟨?_, own_same h.own fun g cs e hq => by rw [O.far g (hv g e)]; exact hq, h.low.trans (O.below h.hb), h.hb⟩
  have := heap_setCell_same w b 2 _ 30 (.int .i64 1) h.cell
  rw [this]
  rfl
theorem RowsS.cell2 {w0 w : World} {b : Nat} {r : Int} {ins : List (Int × Int)} {V : Value} (h : RowsS w0 b r ins V w) : w.cell? ⟨b, 2, none⟩ = some (.int .i64 r) ∧ w.frozen? ⟨b, 2, none⟩ = false := by
  have hc := h.cell
  unfold rwO at hc
  constructor <;> simp [World.cell?, World.frozen?, hc]
theorem RowsS.start (w0 : World) : RowsS w0 w0.heap.size 0 [] (.slice none 0 0) (w0.alloc (rwO 0 (.slice none 0 0))) :=
  ⟨heap_alloc_new w0 _, World.ownsRow_nil _ _ _ _, below_alloc w0 _, Nat.le_refl _⟩
end Go.Proofs.YtilmidjkjgeoeaaDoor
