/- What the document's reader of a sign returns: what the program's does. Conditions: what is read lies in memory. -/
import Derived.Test.YtdmjlgjnboofdaaDoorF
namespace Go.Proofs.YtdmjlgjnboofdaaDoor
open Go.RowKit

theorem twosA : (twos.map strV).toArray = #[.string ⟨#[61, 61]⟩, .string ⟨#[33, 61]⟩, .string ⟨#[60, 61]⟩, .string ⟨#[62, 61]⟩, .string ⟨#[38, 38]⟩, .string ⟨#[124, 124]⟩] := by with_unfolding_all rfl
theorem onesA : (ones.map strV).toArray = #[.string ⟨#[40]⟩, .string ⟨#[41]⟩, .string ⟨#[123]⟩, .string ⟨#[125]⟩, .string ⟨#[44]⟩, .string ⟨#[59]⟩, .string ⟨#[58]⟩, .string ⟨#[61]⟩, .string ⟨#[60]⟩, .string ⟨#[62]⟩, .string ⟨#[43]⟩, .string ⟨#[45]⟩, .string ⟨#[42]⟩, .string ⟨#[47]⟩, .string ⟨#[37]⟩, .string ⟨#[33]⟩] := by with_unfolding_all rfl
theorem byn_of {L : List (List Nat)} (h : ∀ s ∈ L, ∀ b ∈ s, b < 256) {j : Nat} {s : List Nat} (hs : L[j]? = some s) : Byn s := h s (List.mem_of_getElem? hs)
theorem row_new (w : World) (L : List (List Nat)) (h : ∀ s ∈ L, ∀ b ∈ s, b < 256) : Row (w.alloc (.cells (L.map strV).toArray 9)) (w.heap.size + 1) ⟨w.heap.size, 0, none⟩ L := by
  refine ⟨Nat.lt_succ_self _, fun j s hs => ⟨byn_of h hs, ?_⟩⟩
  have e : (Addr.mk w.heap.size 0 none).add j = ⟨w.heap.size, j, none⟩ := by unfold Addr.add; split <;> simp_all
  rw [e]
  exact cell_new w _ 9 (0, 0) j (by rw [List.getElem?_map, hs]; rfl)
theorem Row.below {w w' : World} {B : Nat} {ad : Addr} {L : List (List Nat)} (h : Row w B ad L) (hb : Below B w w') : Row w' B ad L :=
  ⟨h.1, fun j s hs => ⟨(h.2 j s hs).1, by rw [hb.cell (by rw [addr_block]; exact h.1)]; exact (h.2 j s hs).2⟩⟩
theorem below_pair {B : Nat} {w w1 : World} (h : Below B w w1) (hB : B ≤ w1.heap.size) (o o' : Obj) : Below B w ((w1.alloc o).alloc o') := by
  have h1 := h.alloc hB o
  exact h1.alloc (by simp; omega) o'
theorem byn_twos : ∀ s ∈ twos, ∀ b ∈ s, b < 256 := by decide
theorem byn_ones : ∀ s ∈ ones, ∀ b ∈ s, b < 256 := by decide
/-- the two rows of signs that a round makes -/
theorem signs_rows (w : World) : Row ((w.alloc (.cells #[.string ⟨#[61, 61]⟩, .string ⟨#[33, 61]⟩, .string ⟨#[60, 61]⟩, .string ⟨#[62, 61]⟩, .string ⟨#[38, 38]⟩, .string ⟨#[124, 124]⟩] 9)).alloc (.cells #[.string ⟨#[40]⟩, .string ⟨#[41]⟩, .string ⟨#[123]⟩, .string ⟨#[125]⟩, .string ⟨#[44]⟩, .string ⟨#[59]⟩, .string ⟨#[58]⟩, .string ⟨#[61]⟩, .string ⟨#[60]⟩, .string ⟨#[62]⟩, .string ⟨#[43]⟩, .string ⟨#[45]⟩, .string ⟨#[42]⟩, .string ⟨#[47]⟩, .string ⟨#[37]⟩, .string ⟨#[33]⟩] 9)) (w.heap.size + 1) ⟨w.heap.size, 0, none⟩ twos ∧ Row ((w.alloc (.cells #[.string ⟨#[61, 61]⟩, .string ⟨#[33, 61]⟩, .string ⟨#[60, 61]⟩, .string ⟨#[62, 61]⟩, .string ⟨#[38, 38]⟩, .string ⟨#[124, 124]⟩] 9)).alloc (.cells #[.string ⟨#[40]⟩, .string ⟨#[41]⟩, .string ⟨#[123]⟩, .string ⟨#[125]⟩, .string ⟨#[44]⟩, .string ⟨#[59]⟩, .string ⟨#[58]⟩, .string ⟨#[61]⟩, .string ⟨#[60]⟩, .string ⟨#[62]⟩, .string ⟨#[43]⟩, .string ⟨#[45]⟩, .string ⟨#[42]⟩, .string ⟨#[47]⟩, .string ⟨#[37]⟩, .string ⟨#[33]⟩] 9)) (w.heap.size + 2) ⟨w.heap.size + 1, 0, none⟩ ones := by
  rw [← twosA, ← onesA]
  constructor
  · have h := (row_new w twos byn_twos).below (w' := (w.alloc (.cells (twos.map strV).toArray 9)).alloc (.cells (ones.map strV).toArray 9)) ?_
    · exact h
    · have := below_alloc (w.alloc (.cells (twos.map strV).toArray 9)) (.cells (ones.map strV).toArray 9)
      rw [World.size_alloc] at this
      exact this
  · have h := row_new (w.alloc (.cells (twos.map strV).toArray 9)) ones byn_ones
    rw [World.size_alloc] at h
    exact h
theorem ones_not {s : List Nat} (h : s.length = 2) : ones.contains s = false := by
  have h1 : ∀ x ∈ ones, x.length = 1 := by decide
  cases hc : ones.contains s with
  | false => rfl
  | true =>
    have := h1 s (by simpa using hc)
    omega
theorem twos_not {s : List Nat} (h : s.length ≠ 2) : twos.contains s = false := by
  have h1 : ∀ x ∈ twos, x.length = 2 := by decide
  cases hc : twos.contains s with
  | false => rfl
  | true =>
    have := h1 s (by simpa using hc)
    omega
theorem signT_two {r : List Nat} (h : twos.contains (r.take 2) = true) : signT r = ⟨0, 4, r.take 2, 0, 2⟩ := by
  have hl : (r.take 2).length = 2 := by
    rcases Nat.lt_or_ge 0 0 with h0 | _
    · omega
    · cases Nat.decEq (r.take 2).length 2 with
      | isTrue h2 => exact h2
      | isFalse h2 => rw [twos_not h2] at h; cases h
  have hs : signOf r = r.take 2 := by unfold signOf; rw [if_pos h]
  have hne : ¬ signOf r = [] := by rw [hs]; intro h0; rw [h0] at hl; simp at hl
  unfold signT
  rw [if_neg hne, hs, hl]
theorem signT_one {r : List Nat} (h2 : twos.contains (r.take 2) = false) (h : ones.contains (r.take 1) = true) (hr : 1 ≤ r.length) : signT r = ⟨0, 4, r.take 1, 0, 1⟩ := by
  have hs : signOf r = r.take 1 := by unfold signOf; rw [if_neg (by rw [h2]; simp), if_pos h]
  have hl : (r.take 1).length = 1 := by rw [List.length_take]; omega
  have hne : ¬ signOf r = [] := by rw [hs]; intro h0; rw [h0] at hl; simp at hl
  unfold signT
  rw [if_neg hne, hs, hl]
theorem signT_no {r : List Nat} (h2 : twos.contains (r.take 2) = false) (h : ones.contains (r.take 1) = false) : signT r = bad 31 := by
  have hs : signOf r = [] := by unfold signOf; rw [if_neg (by rw [h2]; simp), if_neg (by rw [h]; simp)]
  unfold signT
  rw [if_pos hs]
end Go.Proofs.YtdmjlgjnboofdaaDoor
