/- What the program's 'loose' returns: how loose a sign is. Conditions: none beyond what its argument is. The walk of SyntaxOrder: it returns true, and nothing that was there has changed. Conditions: none beyond what its arguments are; the tables lie as the program lays them. The walk of SyntaxOrder: it returns true, and nothing that was there has changed. Conditions: none beyond what its arguments are; the tables lie as the program lays them. -/
import Derived.Test.YtoicncfpoklanaaDoorWj
import Derived.Test.YtoicncfpoklanaaDoorOr
import Derived.Laws.IdiomStrings
namespace Go.Proofs.YtoicncfpoklanaaDoor
section
open Go.RowKit
set_option maxRecDepth 100000
set_option linter.unusedSimpArgs false
set_option linter.unusedVariables false

theorem looseG_skip (s : List Nat) : ∀ (gs : List (List (List Nat))) (i a : Nat) (g : List (List Nat)), (∀ j g, j < a → gs[j]? = some g → s ∉ g) → gs[a]? = some g → s ∈ g → looseG s gs i = i + a
  | [], i, a, g, _, h, _ => by simp at h
  | x :: r, i, 0, g, _, h, hs => by
    simp at h
    subst h
    have : x.contains s = true := by simpa using hs
    rw [looseG, this]
    rfl
  | x :: r, i, a + 1, g, hn, h, hs => by
    have hx : x.contains s = false := by
      have := hn 0 x (by omega) rfl
      simpa using this
    have ih := looseG_skip s r (i + 1) a g (fun j g hj hg => hn (j + 1) g (by omega) (by simpa using hg)) (by simpa using h) hs
    rw [looseG, hx, cond_false, ih]
    omega
theorem looseG_none (s : List Nat) : ∀ (gs : List (List (List Nat))) (i : Nat), (∀ g ∈ gs, s ∉ g) → looseG s gs i = 5
  | [], i, _ => rfl
  | x :: r, i, h => by
    have hx : x.contains s = false := by
      have := h x (by simp)
      simpa using this
    have ih := looseG_none s r (i + 1) fun g hg => h g (by simp [hg])
    rw [looseG, hx, cond_false, ih]
def gsN : List Nat := [1, 1, 6, 2, 3]
def looseW (w : World) : World := ((((((w.alloc (.cells #[.string ⟨#[124, 124]⟩] 9)).alloc (.cells #[.string ⟨#[38, 38]⟩] 9)).alloc (.cells #[.string ⟨#[61, 61]⟩, .string ⟨#[33, 61]⟩, .string ⟨#[60]⟩, .string ⟨#[60, 61]⟩, .string ⟨#[62]⟩, .string ⟨#[62, 61]⟩] 9)).alloc (.cells #[.string ⟨#[43]⟩, .string ⟨#[45]⟩] 9)).alloc (.cells #[.string ⟨#[42]⟩, .string ⟨#[47]⟩, .string ⟨#[37]⟩] 9)).alloc (.cells #[.slice (some ⟨w.heap.size, 0, none⟩) 1 1, .slice (some ⟨w.heap.size + 1, 0, none⟩) 1 1, .slice (some ⟨w.heap.size + 1 + 1, 0, none⟩) 6 6, .slice (some ⟨w.heap.size + 1 + 1 + 1, 0, none⟩) 2 2, .slice (some ⟨w.heap.size + 1 + 1 + 1 + 1, 0, none⟩) 3 3] 72))
theorem looseW_below (w : World) : Below w.heap.size w (looseW w) := by
  unfold looseW
  exact ((((((Below.refl _ _).alloc (by simp <;> omega) _).alloc (by simp <;> omega) _).alloc (by simp <;> omega) _).alloc (by simp <;> omega) _).alloc (by simp <;> omega) _).alloc (by simp <;> omega) _
theorem looseW_cells (w : World) : ∀ i g, groups[i]? = some g → (looseW w).cell? ⟨w.heap.size + 5, i, none⟩ = some (.slice (some ⟨w.heap.size + i, 0, none⟩) g.length g.length) ∧ ∀ k s, g[k]? = some s → (looseW w).cell? ⟨w.heap.size + i, k, none⟩ = some (.string (strN s)) := by
  intro i g hg
  have hi : i < 5 := (List.getElem?_eq_some_iff.1 hg).1
  have b0 : (looseW w).heap[w.heap.size]? = some (.cells #[.string ⟨#[124, 124]⟩] 9 (0, 0)) := by
    unfold looseW
    rw [Below.heap_alloc _ _ _ (by simp <;> omega)]
    rw [Below.heap_alloc _ _ _ (by simp <;> omega)]
    rw [Below.heap_alloc _ _ _ (by simp <;> omega)]
    rw [Below.heap_alloc _ _ _ (by simp <;> omega)]
    rw [Below.heap_alloc _ _ _ (by simp <;> omega)]
    have h := heap_alloc_new w (.cells #[.string ⟨#[124, 124]⟩] 9)
    exact h
  have b1 : (looseW w).heap[w.heap.size + 1]? = some (.cells #[.string ⟨#[38, 38]⟩] 9 (0, 0)) := by
    unfold looseW
    rw [Below.heap_alloc _ _ _ (by simp <;> omega)]
    rw [Below.heap_alloc _ _ _ (by simp <;> omega)]
    rw [Below.heap_alloc _ _ _ (by simp <;> omega)]
    rw [Below.heap_alloc _ _ _ (by simp <;> omega)]
    have h := heap_alloc_new (w.alloc (.cells #[.string ⟨#[124, 124]⟩] 9)) (.cells #[.string ⟨#[38, 38]⟩] 9)
    rw [show (w.alloc (.cells #[.string ⟨#[124, 124]⟩] 9)).heap.size = w.heap.size + 1 by simp] at h
    exact h
  have b2 : (looseW w).heap[w.heap.size + 2]? = some (.cells #[.string ⟨#[61, 61]⟩, .string ⟨#[33, 61]⟩, .string ⟨#[60]⟩, .string ⟨#[60, 61]⟩, .string ⟨#[62]⟩, .string ⟨#[62, 61]⟩] 9 (0, 0)) := by
    unfold looseW
    rw [Below.heap_alloc _ _ _ (by simp <;> omega)]
    rw [Below.heap_alloc _ _ _ (by simp <;> omega)]
    rw [Below.heap_alloc _ _ _ (by simp <;> omega)]
    have h := heap_alloc_new ((w.alloc (.cells #[.string ⟨#[124, 124]⟩] 9)).alloc (.cells #[.string ⟨#[38, 38]⟩] 9)) (.cells #[.string ⟨#[61, 61]⟩, .string ⟨#[33, 61]⟩, .string ⟨#[60]⟩, .string ⟨#[60, 61]⟩, .string ⟨#[62]⟩, .string ⟨#[62, 61]⟩] 9)
    rw [show ((w.alloc (.cells #[.string ⟨#[124, 124]⟩] 9)).alloc (.cells #[.string ⟨#[38, 38]⟩] 9)).heap.size = w.heap.size + 2 by simp] at h
    exact h
  have b3 : (looseW w).heap[w.heap.size + 3]? = some (.cells #[.string ⟨#[43]⟩, .string ⟨#[45]⟩] 9 (0, 0)) := by
    unfold looseW
    rw [Below.heap_alloc _ _ _ (by simp <;> omega)]
    rw [Below.heap_alloc _ _ _ (by simp <;> omega)]
    have h := heap_alloc_new (((w.alloc (.cells #[.string ⟨#[124, 124]⟩] 9)).alloc (.cells #[.string ⟨#[38, 38]⟩] 9)).alloc (.cells #[.string ⟨#[61, 61]⟩, .string ⟨#[33, 61]⟩, .string ⟨#[60]⟩, .string ⟨#[60, 61]⟩, .string ⟨#[62]⟩, .string ⟨#[62, 61]⟩] 9)) (.cells #[.string ⟨#[43]⟩, .string ⟨#[45]⟩] 9)
    rw [show (((w.alloc (.cells #[.string ⟨#[124, 124]⟩] 9)).alloc (.cells #[.string ⟨#[38, 38]⟩] 9)).alloc (.cells #[.string ⟨#[61, 61]⟩, .string ⟨#[33, 61]⟩, .string ⟨#[60]⟩, .string ⟨#[60, 61]⟩, .string ⟨#[62]⟩, .string ⟨#[62, 61]⟩] 9)).heap.size = w.heap.size + 3 by simp] at h
    exact h
  have b4 : (looseW w).heap[w.heap.size + 4]? = some (.cells #[.string ⟨#[42]⟩, .string ⟨#[47]⟩, .string ⟨#[37]⟩] 9 (0, 0)) := by
    unfold looseW
    rw [Below.heap_alloc _ _ _ (by simp <;> omega)]
    have h := heap_alloc_new ((((w.alloc (.cells #[.string ⟨#[124, 124]⟩] 9)).alloc (.cells #[.string ⟨#[38, 38]⟩] 9)).alloc (.cells #[.string ⟨#[61, 61]⟩, .string ⟨#[33, 61]⟩, .string ⟨#[60]⟩, .string ⟨#[60, 61]⟩, .string ⟨#[62]⟩, .string ⟨#[62, 61]⟩] 9)).alloc (.cells #[.string ⟨#[43]⟩, .string ⟨#[45]⟩] 9)) (.cells #[.string ⟨#[42]⟩, .string ⟨#[47]⟩, .string ⟨#[37]⟩] 9)
    rw [show ((((w.alloc (.cells #[.string ⟨#[124, 124]⟩] 9)).alloc (.cells #[.string ⟨#[38, 38]⟩] 9)).alloc (.cells #[.string ⟨#[61, 61]⟩, .string ⟨#[33, 61]⟩, .string ⟨#[60]⟩, .string ⟨#[60, 61]⟩, .string ⟨#[62]⟩, .string ⟨#[62, 61]⟩] 9)).alloc (.cells #[.string ⟨#[43]⟩, .string ⟨#[45]⟩] 9)).heap.size = w.heap.size + 4 by simp] at h
    exact h
  have b5 : (looseW w).heap[w.heap.size + 5]? = some (.cells #[.slice (some ⟨w.heap.size, 0, none⟩) 1 1, .slice (some ⟨w.heap.size + 1, 0, none⟩) 1 1, .slice (some ⟨w.heap.size + 1 + 1, 0, none⟩) 6 6, .slice (some ⟨w.heap.size + 1 + 1 + 1, 0, none⟩) 2 2, .slice (some ⟨w.heap.size + 1 + 1 + 1 + 1, 0, none⟩) 3 3] 72 (0, 0)) := by
    unfold looseW
    have h := heap_alloc_new (((((w.alloc (.cells #[.string ⟨#[124, 124]⟩] 9)).alloc (.cells #[.string ⟨#[38, 38]⟩] 9)).alloc (.cells #[.string ⟨#[61, 61]⟩, .string ⟨#[33, 61]⟩, .string ⟨#[60]⟩, .string ⟨#[60, 61]⟩, .string ⟨#[62]⟩, .string ⟨#[62, 61]⟩] 9)).alloc (.cells #[.string ⟨#[43]⟩, .string ⟨#[45]⟩] 9)).alloc (.cells #[.string ⟨#[42]⟩, .string ⟨#[47]⟩, .string ⟨#[37]⟩] 9)) (.cells #[.slice (some ⟨w.heap.size, 0, none⟩) 1 1, .slice (some ⟨w.heap.size + 1, 0, none⟩) 1 1, .slice (some ⟨w.heap.size + 1 + 1, 0, none⟩) 6 6, .slice (some ⟨w.heap.size + 1 + 1 + 1, 0, none⟩) 2 2, .slice (some ⟨w.heap.size + 1 + 1 + 1 + 1, 0, none⟩) 3 3] 72)
    rw [show (((((w.alloc (.cells #[.string ⟨#[124, 124]⟩] 9)).alloc (.cells #[.string ⟨#[38, 38]⟩] 9)).alloc (.cells #[.string ⟨#[61, 61]⟩, .string ⟨#[33, 61]⟩, .string ⟨#[60]⟩, .string ⟨#[60, 61]⟩, .string ⟨#[62]⟩, .string ⟨#[62, 61]⟩] 9)).alloc (.cells #[.string ⟨#[43]⟩, .string ⟨#[45]⟩] 9)).alloc (.cells #[.string ⟨#[42]⟩, .string ⟨#[47]⟩, .string ⟨#[37]⟩] 9)).heap.size = w.heap.size + 5 by simp] at h
    exact h
  have hc : i = 0 ∨ i = 1 ∨ i = 2 ∨ i = 3 ∨ i = 4 := by omega
  rcases hc with rfl | rfl | rfl | rfl | rfl
  · obtain rfl : g = [[124, 124]] := by simpa [groups, sOr, sAnd, sCmp, sSum, sProd] using hg.symm
    refine ⟨by rw [Lib.cell_of_heap b5]; rfl, fun k s hs => ?_⟩
    have hk := (List.getElem?_eq_some_iff.1 hs).1
    simp at hk
    have hkc : k = 0 := by omega
    rcases hkc with rfl
    · obtain rfl : s = [124, 124] := by simpa using hs.symm
      change (looseW w).cell? ⟨w.heap.size, 0, none⟩ = _
      rw [Lib.cell_of_heap b0]
      rw [show strN [124, 124] = ⟨#[124, 124]⟩ by kernel_rfl]
      rfl
  · obtain rfl : g = [[38, 38]] := by simpa [groups, sOr, sAnd, sCmp, sSum, sProd] using hg.symm
    refine ⟨by rw [Lib.cell_of_heap b5]; rfl, fun k s hs => ?_⟩
    have hk := (List.getElem?_eq_some_iff.1 hs).1
    simp at hk
    have hkc : k = 0 := by omega
    rcases hkc with rfl
    · obtain rfl : s = [38, 38] := by simpa using hs.symm
      rw [Lib.cell_of_heap b1]
      rw [show strN [38, 38] = ⟨#[38, 38]⟩ by kernel_rfl]
      rfl
  · obtain rfl : g = [[61, 61], [33, 61], [60], [60, 61], [62], [62, 61]] := by simpa [groups, sOr, sAnd, sCmp, sSum, sProd] using hg.symm
    refine ⟨by rw [Lib.cell_of_heap b5]; rfl, fun k s hs => ?_⟩
    have hk := (List.getElem?_eq_some_iff.1 hs).1
    simp at hk
    have hkc : k = 0 ∨ k = 1 ∨ k = 2 ∨ k = 3 ∨ k = 4 ∨ k = 5 := by omega
    rcases hkc with rfl | rfl | rfl | rfl | rfl | rfl
    · obtain rfl : s = [61, 61] := by simpa using hs.symm
      rw [Lib.cell_of_heap b2]
      rw [show strN [61, 61] = ⟨#[61, 61]⟩ by kernel_rfl]
      rfl
    · obtain rfl : s = [33, 61] := by simpa using hs.symm
      rw [Lib.cell_of_heap b2]
      rw [show strN [33, 61] = ⟨#[33, 61]⟩ by kernel_rfl]
      rfl
    · obtain rfl : s = [60] := by simpa using hs.symm
      rw [Lib.cell_of_heap b2]
      rw [show strN [60] = ⟨#[60]⟩ by kernel_rfl]
      rfl
    · obtain rfl : s = [60, 61] := by simpa using hs.symm
      rw [Lib.cell_of_heap b2]
      rw [show strN [60, 61] = ⟨#[60, 61]⟩ by kernel_rfl]
      rfl
    · obtain rfl : s = [62] := by simpa using hs.symm
      rw [Lib.cell_of_heap b2]
      rw [show strN [62] = ⟨#[62]⟩ by kernel_rfl]
      rfl
    · obtain rfl : s = [62, 61] := by simpa using hs.symm
      rw [Lib.cell_of_heap b2]
      rw [show strN [62, 61] = ⟨#[62, 61]⟩ by kernel_rfl]
      rfl
  · obtain rfl : g = [[43], [45]] := by simpa [groups, sOr, sAnd, sCmp, sSum, sProd] using hg.symm
    refine ⟨by rw [Lib.cell_of_heap b5]; rfl, fun k s hs => ?_⟩
    have hk := (List.getElem?_eq_some_iff.1 hs).1
    simp at hk
    have hkc : k = 0 ∨ k = 1 := by omega
    rcases hkc with rfl | rfl
    · obtain rfl : s = [43] := by simpa using hs.symm
      rw [Lib.cell_of_heap b3]
      rw [show strN [43] = ⟨#[43]⟩ by kernel_rfl]
      rfl
    · obtain rfl : s = [45] := by simpa using hs.symm
      rw [Lib.cell_of_heap b3]
      rw [show strN [45] = ⟨#[45]⟩ by kernel_rfl]
      rfl
  · obtain rfl : g = [[42], [47], [37]] := by simpa [groups, sOr, sAnd, sCmp, sSum, sProd] using hg.symm
    refine ⟨by rw [Lib.cell_of_heap b5]; rfl, fun k s hs => ?_⟩
    have hk := (List.getElem?_eq_some_iff.1 hs).1
    simp at hk
    have hkc : k = 0 ∨ k = 1 ∨ k = 2 := by omega
    rcases hkc with rfl | rfl | rfl
    · obtain rfl : s = [42] := by simpa using hs.symm
      rw [Lib.cell_of_heap b4]
      rw [show strN [42] = ⟨#[42]⟩ by kernel_rfl]
      rfl
    · obtain rfl : s = [47] := by simpa using hs.symm
      rw [Lib.cell_of_heap b4]
      rw [show strN [47] = ⟨#[47]⟩ by kernel_rfl]
      rfl
    · obtain rfl : s = [37] := by simpa using hs.symm
      rw [Lib.cell_of_heap b4]
      rw [show strN [37] = ⟨#[37]⟩ by kernel_rfl]
      rfl
theorem byn_group {i : Nat} {g : List (List Nat)} {k : Nat} {s : List Nat} (hg : groups[i]? = some g) (hs : g[k]? = some s) : Byn s := by
  have h : ∀ g ∈ groups, ∀ s ∈ g, ∀ b ∈ s, b < 256 := by decide
  exact h g (List.mem_of_getElem? hg) s (List.mem_of_getElem? hs)
def NotIn (s : List Nat) (a : Nat) : Prop := ∀ j g, j < a → groups[j]? = some g → s ∉ g
def NotAt (s : List Nat) (g : List (List Nat)) (k : Nat) : Prop := ∀ j t, j < k → g[j]? = some t → t ≠ s
theorem NotIn.all {s : List Nat} (h : NotIn s 5) : looseN s = 5 := looseG_none s groups 0 fun g hg => by
  obtain ⟨i, hi, rfl⟩ := List.getElem_of_mem hg
  exact h i _ (by simpa [groups] using hi) (List.getElem?_eq_getElem hi)
theorem NotIn.found {s : List Nat} {a : Nat} {g : List (List Nat)} (h : NotIn s a) (hg : groups[a]? = some g) (hs : s ∈ g) : looseN s = a := by
  have := looseG_skip s groups 0 a g h hg hs
  rw [Nat.zero_add] at this
  exact this
theorem NotIn.more {s : List Nat} {a : Nat} {g : List (List Nat)} (h : NotIn s a) (hg : groups[a]? = some g) (hn : NotAt s g g.length) : NotIn s (a + 1) := by
  intro j g' hj hg'
  by_cases hja : j < a
  · exact h j g' hja hg'
  · obtain rfl : j = a := by omega
    rw [hg] at hg'
    injection hg' with hg'
    subst hg'
    intro hs
    obtain ⟨i, hi, he⟩ := List.getElem_of_mem hs
    exact hn i s hi (by rw [List.getElem?_eq_getElem hi, he]) rfl
set_option maxHeartbeats 1600000 in
theorem loose (s : List Nat) (hy : Byn s) (w : World) :
    Calls Tryd.prog 12 #[.string (strN s)] w fun e w' => e = .returned (.int .i64 (looseN s)) ∧ Below w.heap.size w w' := by
  have hC := looseW_cells w
  have hB := looseW_below w
  unfold looseW at hC hB
  have HC := Lib.hid hC
  have HB := Lib.hid hB
  have HY := Lib.hid hy
  clear hy hC hB
  go_enter Tryd.func12, Tryd.ntmps12
  go_wp2
  generalize ((((((w.alloc (.cells #[.string ⟨#[124, 124]⟩] 9)).alloc (.cells #[.string ⟨#[38, 38]⟩] 9)).alloc (.cells #[.string ⟨#[61, 61]⟩, .string ⟨#[33, 61]⟩, .string ⟨#[60]⟩, .string ⟨#[60, 61]⟩, .string ⟨#[62]⟩, .string ⟨#[62, 61]⟩] 9)).alloc (.cells #[.string ⟨#[43]⟩, .string ⟨#[45]⟩] 9)).alloc (.cells #[.string ⟨#[42]⟩, .string ⟨#[47]⟩, .string ⟨#[37]⟩] 9)).alloc (.cells #[.slice (some ⟨w.heap.size, 0, none⟩) 1 1, .slice (some ⟨w.heap.size + 1, 0, none⟩) 1 1, .slice (some ⟨w.heap.size + 1 + 1, 0, none⟩) 6 6, .slice (some ⟨w.heap.size + 1 + 1 + 1, 0, none⟩) 2 2, .slice (some ⟨w.heap.size + 1 + 1 + 1 + 1, 0, none⟩) 3 3] 72)) = w6 at *
  go_loop [4] (fun i => ∃ a : Nat, a ≤ 5 ∧ i = .int .i64 a ∧ NotIn s a) (fun i => 5 - (intOf i).toNat)
  case atStart => exact ⟨0, by omega, rfl, fun j g h => by omega⟩
  case round =>
    obtain ⟨a, ha, rfl, hN⟩ := hrel
    have HN := Lib.hid hN
    clear hN
    by_cases hlt : a < 5
    · have hg : groups[a]? = some groups[a] := List.getElem?_eq_getElem hlt
      generalize groups[a] = g at hg
      have c1 : w6.cell? ⟨w.heap.size + 1 + 1 + 1 + 1 + 1, a, none⟩ = some (.slice (some ⟨w.heap.size + a, 0, none⟩) g.length g.length) := (HC.out a g hg).1
      have HG := Lib.hid hg
      have hglen : g.length ≤ 6 := by
        have : ∀ g ∈ groups, g.length ≤ 6 := by decide
        exact this g (List.mem_of_getElem? hg)
      clear hg
      go_wp2
      go_loop [5] (fun i => ∃ k : Nat, k ≤ g.length ∧ i = .int .i64 k ∧ NotAt s g k) (fun i => g.length - (intOf i).toNat)
      case atStart => exact ⟨0, by omega, rfl, fun j g h => by omega⟩
      case round =>
        obtain ⟨k, hk, rfl, hM⟩ := hrel
        have HM := Lib.hid hM
        clear hM
        by_cases hkl : k < g.length
        · have ht : g[k]? = some g[k] := List.getElem?_eq_getElem hkl
          generalize g[k] = t at ht
          have c2 : w6.cell? ⟨w.heap.size + a, k, none⟩ = some (.string (strN t)) := (HC.out a g HG.out).2 k t ht
          have hq := strN_eq (byn_group HG.out ht) HY.out
          have HTk := Lib.hid ht
          clear ht
          by_cases hts : t = s
          · have hq1 : ((strN t).toList == (strN s).toList) = true := by rw [hq]; simpa using hts
            clear hq
            have HF : Hid (looseN s = a) := HN.out.found HG.out (by rw [← hts]; exact List.mem_of_getElem? HTk.out)
            clear hts
            go_wp2
            go_ret
            exact ⟨by rw [HF.out]; rfl, HB.out⟩
          · have hq1 : ((strN t).toList == (strN s).toList) = false := by rw [hq]; simpa using hts
            clear hq
            have HM2 : Hid (NotAt s g (k + 1)) := fun j t' hj hj' => by
              by_cases hjk : j < k
              · exact HM.out j t' hjk hj'
              · obtain rfl : j = k := by omega
                have := HTk.out
                rw [hj'] at this
                injection this with this
                rw [this]
                exact hts
            clear hts
            go_wp2
            go_round
            case rel => exact ⟨k + 1, by omega, by go_num, HM2.out⟩
            case measure => simp [intOf]; omega
        · have hkg : k = g.length := by omega
          have HN2 : Hid (NotIn s (a + 1)) := HN.out.more HG.out (by rw [← hkg]; exact HM.out)
          clear hkg
          go_wp2
          go_round
          case rel => exact ⟨a + 1, by omega, by go_num, HN2.out⟩
          case measure => simp [intOf]; omega
    · have ha5 : a = 5 := by omega
      have HF : Hid (looseN s = 5) := NotIn.all (by rw [← ha5]; exact HN.out)
      clear ha5
      go_wp2
      go_ret
      exact ⟨by rw [HF.out]; rfl, HB.out⟩
end

section
open Go.RowKit
set_option maxRecDepth 100000
set_option linter.unusedSimpArgs false
set_option linter.unusedVariables false

/-- '[]byte(s)' -/
theorem run_bytes (w : World) (s : List Nat) (hs : Byn s) (hm : s.length ≤ maxLen) : ∃ c w', (convert 9 22 (.string (strN s))).run Tryd.prog w = .ok (.slice (some ⟨w.heap.size, 0, none⟩) s.length c) w' ∧ s.length ≤ c ∧ c ≤ maxLen ∧ Below w.heap.size w w' ∧ Lies w' w'.heap.size (some ⟨w.heap.size, 0, none⟩) c (bts s) := by
  have h := run_bytes_of_string (P := Tryd.prog) w 9 22 5 (strN s) Tryd.underlying9 Tryd.underlying22 Tryd.underlying5
  rw [strN_size] at h
  generalize hc : grownCap w s.length 0 5 = c at h
  have h1 := grownCap_ge w s.length 0 5
  have h2 := grownCap_le_maxLen w s.length 0 5 hm
  rw [hc] at h1 h2
  refine ⟨c, _, h, h1, h2, ((Below.refl _ _).drew).alloc (Nat.le_refl _) _, (fun e => by cases e), fun j u hu => ⟨_, rfl, by simp, ?_⟩⟩
  have hj : j < s.length := by
    have := (List.getElem?_eq_some_iff.1 hu).1
    simpa [bts] using this
  have hb : (w.drew.alloc (.cells (bytesRow (strN s) c) 5 ((bytesRow (strN s) c).size, (bytesRow (strN s) c).size + 1))).heap[w.heap.size]? = some (.cells (bytesRow (strN s) c) 5 ((bytesRow (strN s) c).size, (bytesRow (strN s) c).size + 1)) := heap_alloc_new w.drew _
  rw [Addr.add_lit, cell_of_row _ _ _ _ _ _ hb, Nat.zero_add, bytesRow_at _ _ _ (by rw [strN_data]; simpa using hj)]
  have e1 : (bts s)[j]? = some (.int .u8 (s[j] : Nat)) := bts_get (List.getElem?_eq_getElem hj)
  rw [← hu, e1]
  have hb2 := hs s[j] (List.getElem_mem hj)
  simp only [strN_data]
  simp
  omega


theorem order_str (s t : List Nat) : ((⟨#[102, 110, 32, 102, 40, 41, 32, 123, 32, 120, 32, 61, 32, 97, 32]⟩ : ByteArray) ++ strN s ++ ⟨#[32, 98, 32]⟩ ++ strN t ++ ⟨#[32, 99, 59, 32, 125]⟩) = strN (orderL s t) := by
  rw [show (⟨#[102, 110, 32, 102, 40, 41, 32, 123, 32, 120, 32, 61, 32, 97, 32]⟩ : ByteArray) = strN [102, 110, 32, 102, 40, 41, 32, 123, 32, 120, 32, 61, 32, 97, 32] by kernel_rfl, show (⟨#[32, 98, 32]⟩ : ByteArray) = strN [32, 98, 32] by kernel_rfl, show (⟨#[32, 99, 59, 32, 125]⟩ : ByteArray) = strN [32, 99, 59, 32, 125] by kernel_rfl]
  rw [strN_append, strN_append, strN_append, strN_append]
  rfl
theorem signs_byn : ∀ s ∈ signs5, Byn s := by unfold Byn; decide
theorem signs_len : ∀ s ∈ signs5, s.length ≤ 2 := by decide
theorem byn_order {s t : List Nat} (hs : s ∈ signs5) (ht : t ∈ signs5) : Byn (orderL s t) := by
  intro b hb
  simp only [orderL, List.mem_append] at hb
  have h1 : ∀ x ∈ ([102, 110, 32, 102, 40, 41, 32, 123, 32, 120, 32, 61, 32, 97, 32] : List Nat), x < 256 := by decide
  have h2 : ∀ x ∈ ([32, 98, 32] : List Nat), x < 256 := by decide
  have h3 : ∀ x ∈ ([32, 99, 59, 32, 125] : List Nat), x < 256 := by decide
  rcases hb with (((h | h) | h) | h) | h
  · exact h1 b h
  · exact signs_byn s hs b h
  · exact h2 b h
  · exact signs_byn t ht b h
  · exact h3 b h
theorem order_len {s t : List Nat} (hs : s ∈ signs5) (ht : t ∈ signs5) : (orderL s t).length ≤ 27 := by
  have := signs_len s hs
  have := signs_len t ht
  simp [orderL]
  omega
theorem order_at {s t : List Nat} (hs : s ∈ signs5) (ht : t ∈ signs5) : orderOk s t = true := List.all_eq_true.1 (List.all_eq_true.1 order_all s hs) t ht
theorem order_two {s t : List Nat} (hs : s ∈ signs5) (ht : t ∈ signs5) (h1 : looseN s = 2) (h2 : looseN t = 2) : ∃ fs place, parsed (orderL s t) = ⟨41, fs, place⟩ := by
  have h := order_at hs ht
  unfold orderOk at h
  generalize parsed (orderL s t) = p at h
  obtain ⟨err, fs, place⟩ := p
  have hb : ((looseN s == 2) && (looseN t == 2)) = true := by rw [h1, h2]; rfl
  simp only [hb, cond_true, Nat.beq_eq] at h
  exact ⟨fs, place, by rw [h]⟩
/-- what is read of three names and two signs -/
def OrdX (s t : List Nat) (x : Ex) : Prop := ∃ a b, x.kids = [a, b] ∧ ((looseN s < looseN t ∧ x.text = s ∧ b.text = t ∧ a.text = [97]) ∨ (¬ looseN s < looseN t ∧ x.text = t ∧ a.text = s ∧ b.text = [99]))
theorem order_one {s t : List Nat} (hs : s ∈ signs5) (ht : t ∈ signs5) (h12 : ¬ (looseN s = 2 ∧ looseN t = 2)) : ∃ f st x, parsed (orderL s t) = ⟨0, [f], 0⟩ ∧ f.body = [st] ∧ st.exprs[0]? = some x ∧ OrdX s t x := by
  have h := order_at hs ht
  unfold orderOk at h
  generalize parsed (orderL s t) = p at h
  obtain ⟨err, fs, place⟩ := p
  have hb : ((looseN s == 2) && (looseN t == 2)) = false := by
    cases hq : ((looseN s == 2) && (looseN t == 2)) with
    | false => rfl
    | true => simp at hq; exact absurd hq h12
  simp only [hb, cond_false, Bool.and_eq_true, Nat.beq_eq] at h
  obtain ⟨⟨h2, h3⟩, h4⟩ := h
  subst h2 h3
  split at h4
  · rename_i x _ _ _ _ _
    refine ⟨_, _, _, rfl, rfl, rfl, ?_⟩
    unfold orderX at h4
    split at h4
    · refine ⟨_, _, rfl, ?_⟩
      cases hl : Nat.ble (looseN s + 1) (looseN t) with
      | true =>
        rw [hl] at h4
        simp at h4
        rw [Nat.ble_eq] at hl
        exact .inl ⟨by omega, h4.1.1, h4.1.2, h4.2⟩
      | false =>
        rw [hl] at h4
        simp at h4
        have hl' : ¬ looseN s < looseN t := by
          intro hh
          have : Nat.ble (looseN s + 1) (looseN t) = true := by rw [Nat.ble_eq]; omega
          rw [hl] at this
          cases this
        exact .inr ⟨hl', h4.1.1, h4.1.2, h4.2⟩
    · cases h4
  · cases h4
/-- where the first expression of the first statement of the first function lies, and its two parts -/
structure OrdM (w : World) (B : Nat) (V : Value) (x a b : Ex) : Prop where
  ex : ∃ b1 o1 c1 b2 o2 c2 b3 o3 c3 n3 b4 o4 c4, V = .slice (some ⟨b1, o1, none⟩) 1 c1 ∧ (1 ≤ c1 ∧ c1 ≤ maxLen) ∧ (b1 < B ∧ b2 < B ∧ b3 < B ∧ b4 < B) ∧ w.cell? ⟨b1, o1 + 3, none⟩ = some (.slice (some ⟨b2, o2, none⟩) 1 c2) ∧ (1 ≤ c2 ∧ c2 ≤ maxLen) ∧ w.cell? ⟨b2, o2 + 2, none⟩ = some (.slice (some ⟨b3, o3, none⟩) n3 c3) ∧ (0 < n3 ∧ n3 ≤ c3 ∧ c3 ≤ maxLen) ∧ w.rangeAt b3 o3 [.int .i64 x.op, .int .i64 x.num, .string (strN x.text), .slice (some ⟨b4, o4, none⟩) 2 c4, .int .i64 x.place] ∧ (2 ≤ c4 ∧ c4 ≤ maxLen) ∧ w.cell? ⟨b4, o4 + 2, none⟩ = some (.string (strN a.text)) ∧ w.cell? ⟨b4, o4 + 5 + 2, none⟩ = some (.string (strN b.text))
theorem ord_mem {w : World} {D : Nat → Prop} {B : Nat} (hD : ∀ k, D k → k < B) {f : Fu} {st : St} {x a b : Ex} {V : Value} (hV : FusC w D [f] V) (hs : f.body = [st]) (hx : st.exprs[0]? = some x) (hk : x.kids = [a, b]) : OrdM w B V x a b := by
  obtain ⟨b1, o1, c1, k, e1, a1, a2, a3, a4, a5, a6⟩ := hV.get (i := 0) (f := f) rfl
  obtain ⟨kp, kb⟩ := k
  have a6' : StsC w D f.body kb := a6
  rw [hs] at a6'
  obtain ⟨b2, o2, c2, q, e2, d1, d2, d3, d4, d5, d6, d7⟩ := a6'.get (i := 0) (s := st) rfl
  obtain ⟨qe, qb, qf⟩ := q
  obtain ⟨b3, o3, c3, z, e3, g1, g2, g3, g4, g5⟩ := d5.get hx
  rw [hk] at g5
  obtain ⟨b4, o4, c4, z1, e4, h1, h2, h3, h4, h5⟩ := g5.get (i := 0) (e := a) rfl
  obtain ⟨b5, o5, c5, z2, e5, j1, j2, j3, j4, j5⟩ := g5.get (i := 1) (e := b) rfl
  have e2' : kb = .slice (some ⟨b2, o2, none⟩) 1 c2 := e2
  have e3' : qe = .slice (some ⟨b3, o3, none⟩) st.exprs.length c3 := e3
  have e4' : z = .slice (some ⟨b4, o4, none⟩) 2 c4 := e4
  subst e2' e3' e4'
  injection e5 with e6 e7 e8
  injection e6 with e6
  injection e6 with e9 e10
  subst e9 e10
  rw [Nat.zero_mul, Nat.add_zero] at a4 d4 g4 h4
  rw [Nat.one_mul] at j4
  exact ⟨b1, o1, c1, b2, o2, c2, b3, o3, c3, _, b4, o4, c4, e1, ⟨a1, a2⟩, ⟨hD _ a3, hD _ d3, hD _ g3, hD _ h3⟩, a4 3 _ rfl, ⟨d1, d2⟩, d4 2 _ rfl, ⟨(List.getElem?_eq_some_iff.1 hx).1, g1, g2⟩, g4, ⟨h1, h2⟩, h4 2 _ rfl, j4 2 _ rfl⟩
end

section
open Go.RowKit
set_option maxRecDepth 100000
set_option linter.unusedSimpArgs false
set_option linter.unusedVariables false

theorem cell_kept {B : Nat} {w w' : World} (hb : Below B w w') {b o : Nat} {v : Value} (h : w.cell? ⟨b, o, none⟩ = some v) (hB : b < B) : w'.cell? ⟨b, o, none⟩ = some v := by
  rw [hb.cell (p := ⟨b, o, none⟩) hB]
  exact h
theorem str97 : strN [97] = ⟨#[97]⟩ := by kernel_rfl
theorem str99 : strN [99] = ⟨#[99]⟩ := by kernel_rfl

set_option maxHeartbeats 3200000 in
theorem order_walk (s t : List Nat) (hs : Byn s) (ht : Byn t) (w : World) (hT : Tab w) :
    Calls Tryd.prog 7 #[.string (strN s), .string (strN t)] w fun e w' => e = .returned (.bool true) ∧ Below w.heap.size w w' := by
  have HT := Lib.hid hT
  have hpos := hT.1
  have HY : Hid (Byn s ∧ Byn t) := ⟨hs, ht⟩
  have K := Lib.hid (head_true w hT)
  clear hs ht hT
  go_enter Tryd.func7, Tryd.ntmps7
  go_wp2_with fail
  (with_reducible refine K.out.mono ?_)
  clear K
  rintro e w1 ⟨rfl, hb1⟩
  have BW1 := Lib.hid hb1
  have s1 := hb1.size
  clear hb1
  have K := Lib.hid (loose s HY.out.1 w1)
  go_wp2_with fail
  (with_reducible refine K.out.mono ?_)
  clear K
  rintro e w2 ⟨rfl, hb2⟩
  have BW2 := Lib.hid (BW1.out.trans (hb2.mono s1))
  have s2 := hb2.size
  clear hb2
  by_cases h5 : looseN s = 5
  · have q : ((((looseN s) : Nat) : Int) == 5) = true := by rw [h5]; rfl
    clear h5
    go_wp2
    go_ret
    exact ⟨rfl, BW2.out⟩
  have hsm : s ∈ signs5 := (loose_mem s).resolve_left h5
  have q5 : ((((looseN s) : Nat) : Int) == 5) = false := by rw [beq_eq_false_iff_ne]; omega
  have K := Lib.hid (loose t HY.out.2 w2)
  go_wp2_with fail
  (with_reducible refine K.out.mono ?_)
  clear K
  rintro e w3 ⟨rfl, hb3⟩
  have BW3 := Lib.hid (BW2.out.trans (hb3.mono (by omega)))
  have s3 := hb3.size
  clear hb3
  by_cases h5t : looseN t = 5
  · have q : ((((looseN t) : Nat) : Int) == 5) = true := by rw [h5t]; rfl
    clear h5t
    go_wp2
    go_ret
    exact ⟨rfl, BW3.out⟩
  have htm : t ∈ signs5 := (loose_mem t).resolve_left h5t
  have q5t : ((((looseN t) : Nat) : Int) == 5) = false := by rw [beq_eq_false_iff_ne]; omega
  clear h5 h5t
  have hol := order_len hsm htm
  obtain ⟨c, w4, hconv, hc1, hc2, hb4, hl4⟩ := run_bytes w3 (orderL s t) (byn_order hsm htm) (by unfold maxLen; omega)
  rw [← order_str] at hconv
  have zs : s.length ≤ 2 := signs_len s hsm
  have zt : t.length ≤ 2 := signs_len t htm
  have hz1 : ¬ 9223372036854775807 < 15 + (strN s).size := by rw [strN_size]; omega
  have hz2 : ¬ 9223372036854775807 < 15 + (strN s).size + 3 := by rw [strN_size]; omega
  have hz3 : ¬ 9223372036854775807 < 15 + (strN s).size + 3 + (strN t).size := by rw [strN_size, strN_size]; omega
  have hz4 : ¬ 9223372036854775807 < 15 + (strN s).size + 3 + (strN t).size + 5 := by rw [strN_size, strN_size]; omega
  have s4 := hb4.size
  have BW4 := Lib.hid (BW3.out.trans (hb4.mono (by omega)))
  have HL4 := Lib.hid hl4
  have HM : Hid (s ∈ signs5 ∧ t ∈ signs5) := ⟨hsm, htm⟩
  have HC2 := Lib.hid hc2
  clear hl4 hb4 hsm htm hc2
  generalize hn : (orderL s t).length = n at *
  have HNn := Lib.hid hn
  clear hn
  by_cases h22 : looseN s = 2 ∧ looseN t = 2
  · obtain ⟨fs, place, hp⟩ := order_two HM.out.1 HM.out.2 h22.1 h22.2
    have K := Lib.hid (parseZ (some ⟨w3.heap.size, 0, none⟩) (orderL s t) n c w4 HNn.out hc1 HC2.out HL4.out (byn_order HM.out.1 HM.out.2) (HT.out.below BW4.out hpos) 41 place fs hp 41 place rfl rfl)
    have q2 : ((((looseN s) : Nat) : Int) == 2) = true := by rw [h22.1]; rfl
    have q2t : ((((looseN t) : Nat) : Int) == 2) = true := by rw [h22.2]; rfl
    clear hp h22
    go_wp2_with fail
    clear hconv hz1 hz2 hz3 hz4
    (with_reducible refine K.out.mono ?_)
    clear K
    rintro e w5 ⟨V, rfl, hf5, hb5⟩
    obtain ⟨A5, c5, rfl⟩ : ∃ A c, V = .slice A fs.length c := by
      obtain ⟨_, _, h, _⟩ := hf5
      exact row_slice h
    have s5 := hb5.size
    have b5a := below_alloc w5 (.cells #[.slice A5 fs.length c5] 26)
    have s5a := b5a.size
    have BW5 := Lib.hid ((BW4.out.trans (hb5.mono (by omega))).trans (b5a.mono (by omega)))
    clear hf5 hb5 b5a
    have K := Lib.hid (loose s HY.out.1 (w5.alloc (.cells #[.slice A5 fs.length c5] 26)))
    go_wp2_with fail
    generalize w5.alloc (.cells #[.slice A5 fs.length c5] 26) = w5a at *
    (with_reducible refine K.out.mono ?_)
    clear K
    rintro e w6 ⟨rfl, hb6⟩
    have BW6 := Lib.hid (BW5.out.trans (hb6.mono (by omega)))
    have s6 := hb6.size
    clear hb6
    have K := Lib.hid (loose t HY.out.2 w6)
    go_wp2_with fail
    (with_reducible refine K.out.mono ?_)
    clear K
    rintro e w7 ⟨rfl, hb7⟩
    have BW7 := Lib.hid (BW6.out.trans (hb7.mono (by omega)))
    clear hb7
    go_wp2
    go_ret
    exact ⟨rfl, BW7.out⟩
  · obtain ⟨f, st, x, hp, hst, hx, a, b, hk, hord⟩ := order_one HM.out.1 HM.out.2 h22
    have K := Lib.hid (parseZ (some ⟨w3.heap.size, 0, none⟩) (orderL s t) n c w4 HNn.out hc1 HC2.out HL4.out (byn_order HM.out.1 HM.out.2) (HT.out.below BW4.out hpos) 0 0 [f] hp 0 0 rfl rfl)
    have HX : Hid (f.body = [st] ∧ st.exprs[0]? = some x ∧ x.kids = [a, b]) := ⟨hst, hx, hk⟩
    have HO := Lib.hid hord
    have H22 := Lib.hid h22
    clear hp hst hx hk hord h22
    go_wp2_with fail
    clear hconv hz1 hz2 hz3 hz4
    (with_reducible refine K.out.mono ?_)
    clear K
    rintro e w5 ⟨V, rfl, hf5, hb5⟩
    have hom := ord_mem (B := w5.heap.size) (fun k hk => hk.2) hf5 HX.out.1 HX.out.2.1 HX.out.2.2
    obtain ⟨b1, o1, c1, b2, o2, c2, b3, o3, c3, n3, b4, o4, c4, rfl, m1, m2, m3, m4, m5, m6, m7, m8, m9, m10⟩ := hom.ex
    have s5 := hb5.size
    have b5a := below_alloc w5 (.cells #[.slice (some ⟨b1, o1, none⟩) 1 c1] 26)
    have s5a := b5a.size
    have BW5 := Lib.hid ((BW4.out.trans (hb5.mono (by omega))).trans (b5a.mono (by omega)))
    have V5 : (w5.alloc (.cells #[.slice (some ⟨b1, o1, none⟩) 1 c1] 26)).cell? ⟨w5.heap.size, 0, none⟩ = some (.slice (some ⟨b1, o1, none⟩) 1 c1) := by
      rw [Lib.cell_of_heap (heap_alloc_new w5 (.cells #[.slice (some ⟨b1, o1, none⟩) 1 c1] 26))]
      rfl
    have hlt5 : w5.heap.size < (w5.alloc (.cells #[.slice (some ⟨b1, o1, none⟩) 1 c1] 26)).heap.size := by simp
    have HM5 : Hid ((w5.alloc (.cells #[.slice (some ⟨b1, o1, none⟩) 1 c1] 26)).cell? ⟨w5.heap.size, 0, none⟩ = some (.slice (some ⟨b1, o1, none⟩) 1 c1) ∧ (w5.alloc (.cells #[.slice (some ⟨b1, o1, none⟩) 1 c1] 26)).cell? ⟨b1, o1 + 3, none⟩ = some (.slice (some ⟨b2, o2, none⟩) 1 c2) ∧ (w5.alloc (.cells #[.slice (some ⟨b1, o1, none⟩) 1 c1] 26)).cell? ⟨b2, o2 + 2, none⟩ = some (.slice (some ⟨b3, o3, none⟩) n3 c3) ∧ (w5.alloc (.cells #[.slice (some ⟨b1, o1, none⟩) 1 c1] 26)).rangeAt b3 o3 [.int .i64 x.op, .int .i64 x.num, .string (strN x.text), .slice (some ⟨b4, o4, none⟩) 2 c4, .int .i64 x.place] ∧ (w5.alloc (.cells #[.slice (some ⟨b1, o1, none⟩) 1 c1] 26)).cell? ⟨b4, o4 + 2, none⟩ = some (.string (strN a.text)) ∧ (w5.alloc (.cells #[.slice (some ⟨b1, o1, none⟩) 1 c1] 26)).cell? ⟨b4, o4 + 5 + 2, none⟩ = some (.string (strN b.text))) :=
      ⟨V5, cell_kept b5a m3 m2.1, cell_kept b5a m5 m2.2.1, range_below m7 b5a m2.2.2.1, cell_kept b5a m9 m2.2.2.2, cell_kept b5a m10 m2.2.2.2⟩
    have hm1 := m1.1
    have hm1' := m1.2
    have hm4 := m4.1
    have hm4' := m4.2
    have hm6 := m6.1
    have hm6' := m6.2.1
    have hm6'' := m6.2.2
    have hm8 := m8.1
    have hm8' := m8.2
    obtain ⟨mb1, mb2, mb3, mb4⟩ := m2
    unfold maxLen at hm1' hm4' hm6'' hm8'
    clear hom hf5 hb5 b5a m1 m3 m4 m5 m6 m7 m8 m9 m10 V5
    have K := Lib.hid (loose s HY.out.1 (w5.alloc (.cells #[.slice (some ⟨b1, o1, none⟩) 1 c1] 26)))
    go_wp2_with fail
    generalize w5.alloc (.cells #[.slice (some ⟨b1, o1, none⟩) 1 c1] 26) = w5a at *
    (with_reducible refine K.out.mono ?_)
    clear K
    rintro e w6 ⟨rfl, hb6⟩
    have BW6 := Lib.hid (BW5.out.trans (hb6.mono (by omega)))
    have HB6 := Lib.hid hb6
    have s6 := hb6.size
    clear hb6
    have key : ∀ w7, Below w.heap.size w w7 → Below w5a.heap.size w5a w7 → True := fun _ _ _ => trivial
    clear key
    by_cases h2 : looseN s = 2
    · have q2 : ((((looseN s) : Nat) : Int) == 2) = true := by rw [h2]; rfl
      have q2t : ((((looseN t) : Nat) : Int) == 2) = false := by
        rw [beq_eq_false_iff_ne]
        have := H22.out
        omega
      clear h2
      have K := Lib.hid (loose t HY.out.2 w6)
      go_wp2_with fail
      (with_reducible refine K.out.mono ?_)
      clear K
      rintro e w7 ⟨rfl, hb7⟩
      have BW7 := Lib.hid (BW6.out.trans (hb7.mono (by omega)))
      have HB7 := Lib.hid (HB6.out.trans (hb7.mono s6))
      have s7 := hb7.size
      clear hb7
      have p0 := cell_kept HB7.out HM5.out.1 hlt5
      have p1 := cell_kept HB7.out HM5.out.2.1 (show b1 < w5a.heap.size by omega)
      have p2 := cell_kept HB7.out HM5.out.2.2.1 (show b2 < w5a.heap.size by omega)
      have P3 := Lib.hid (range_below HM5.out.2.2.2.1 HB7.out (show b3 < w5a.heap.size by omega))
      have P4 := Lib.hid (cell_kept HB7.out HM5.out.2.2.2.2.1 (show b4 < w5a.heap.size by omega))
      have P5 := Lib.hid (cell_kept HB7.out HM5.out.2.2.2.2.2 (show b4 < w5a.heap.size by omega))
      have b8 := below_alloc w7 (.cells #[.int .i64 x.op, .int .i64 x.num, .string (strN x.text), .slice (some ⟨b4, o4, none⟩) 2 c4, .int .i64 x.place] 39)
      have s8 := b8.size
      have K := Lib.hid (loose t HY.out.2 (w7.alloc (.cells #[.int .i64 x.op, .int .i64 x.num, .string (strN x.text), .slice (some ⟨b4, o4, none⟩) 2 c4, .int .i64 x.place] 39)))
      have HX8 := Lib.hid (heap_alloc_new w7 (.cells #[.int .i64 x.op, .int .i64 x.num, .string (strN x.text), .slice (some ⟨b4, o4, none⟩) 2 c4, .int .i64 x.place] 39))
      have hlt8 : w7.heap.size < (w7.alloc (.cells #[.int .i64 x.op, .int .i64 x.num, .string (strN x.text), .slice (some ⟨b4, o4, none⟩) 2 c4, .int .i64 x.place] 39)).heap.size := by simp
      have BW8 := Lib.hid (BW7.out.trans (b8.mono (by omega)))
      have P4' := Lib.hid (cell_kept b8 P4.out (show b4 < w7.heap.size by have := HB7.out.size; omega))
      have P5' := Lib.hid (cell_kept b8 P5.out (show b4 < w7.heap.size by have := HB7.out.size; omega))
      clear b8
      go_wp2_with (first | (refine wpList_load_mid rfl 39 (.tmp 70) rfl b3 o3 rfl [.int .i64 x.op, .int .i64 x.num, .string (strN x.text), .slice (some ⟨b4, o4, none⟩) 2 c4, .int .i64 x.place] _ P3.out Tryd.underlying39 rfl info39s ?_; refine Hid.out ?_) | fail)
      refine Lib.hid ?_
      go_wp2_with fail
      generalize w7.alloc (.cells #[.int .i64 x.op, .int .i64 x.num, .string (strN x.text), .slice (some ⟨b4, o4, none⟩) 2 c4, .int .i64 x.place] 39) = w8 at *
      (with_reducible refine K.out.mono ?_)
      clear K p0 p1 p2
      rintro e w9 ⟨rfl, hb9⟩
      have BW9 := Lib.hid (BW8.out.trans (hb9.mono (by have := BW8.out.size; omega)))
      have HB9 := Lib.hid hb9
      have s9 := hb9.size
      clear hb9
      have K := Lib.hid (loose s HY.out.1 w9)
      go_wp2_with fail
      (with_reducible refine K.out.mono ?_)
      clear K
      rintro e w10 ⟨rfl, hb10⟩
      have BW10 := Lib.hid (BW9.out.trans (hb10.mono (by have := BW9.out.size; omega)))
      have HB10 := HB9.out.trans (hb10.mono s9)
      have x8 : w8.cell? ⟨w7.heap.size, 2, none⟩ = some (.string (strN x.text)) := by rw [Lib.cell_of_heap HX8.out]; rfl
      have x9 : w8.cell? ⟨w7.heap.size, 3, none⟩ = some (.slice (some ⟨b4, o4, none⟩) 2 c4) := by rw [Lib.cell_of_heap HX8.out]; rfl
      have y2 := cell_kept HB10 x8 hlt8
      have y3 := cell_kept HB10 x9 hlt8
      have y4 := cell_kept HB10 P4'.out (show b4 < w8.heap.size by have := HB7.out.size; omega)
      have y5 := cell_kept HB10 P5'.out (show b4 < w8.heap.size by have := HB7.out.size; omega)
      clear hb10 HB10 x8 x9
      have hss : ((strN s).toList == (strN s).toList) = true := by simp
      have htt : ((strN t).toList == (strN t).toList) = true := by simp
      rcases HO.out with ⟨hl, o1', o2', o3'⟩ | ⟨hl, o1', o2', o3'⟩
      · rw [o1'] at y2
        rw [o2'] at y5
        rw [o3', str97] at y4
        have hl' : decide (looseN s < looseN t) = true := by simpa using hl
        clear o1' o2' o3' hl
        go_wp2
        go_ret
        exact ⟨rfl, BW10.out⟩
      · rw [o1'] at y2
        rw [o2'] at y4
        rw [o3', str99] at y5
        have hl' : decide (looseN s < looseN t) = false := by simpa using hl
        clear o1' o2' o3' hl
        go_wp2
        go_ret
        exact ⟨rfl, BW10.out⟩
    · have q2 : ((((looseN s) : Nat) : Int) == 2) = false := by rw [beq_eq_false_iff_ne]; omega
      clear h2
      have BW7 := BW6
      have HB7 := HB6
      have s7 : w6.heap.size ≤ w6.heap.size := Nat.le_refl _
      generalize hw7 : w6 = w7 at *
      clear hw7
      have p0 := cell_kept HB7.out HM5.out.1 hlt5
      have p1 := cell_kept HB7.out HM5.out.2.1 (show b1 < w5a.heap.size by omega)
      have p2 := cell_kept HB7.out HM5.out.2.2.1 (show b2 < w5a.heap.size by omega)
      have P3 := Lib.hid (range_below HM5.out.2.2.2.1 HB7.out (show b3 < w5a.heap.size by omega))
      have P4 := Lib.hid (cell_kept HB7.out HM5.out.2.2.2.2.1 (show b4 < w5a.heap.size by omega))
      have P5 := Lib.hid (cell_kept HB7.out HM5.out.2.2.2.2.2 (show b4 < w5a.heap.size by omega))
      have b8 := below_alloc w7 (.cells #[.int .i64 x.op, .int .i64 x.num, .string (strN x.text), .slice (some ⟨b4, o4, none⟩) 2 c4, .int .i64 x.place] 39)
      have s8 := b8.size
      have K := Lib.hid (loose t HY.out.2 (w7.alloc (.cells #[.int .i64 x.op, .int .i64 x.num, .string (strN x.text), .slice (some ⟨b4, o4, none⟩) 2 c4, .int .i64 x.place] 39)))
      have HX8 := Lib.hid (heap_alloc_new w7 (.cells #[.int .i64 x.op, .int .i64 x.num, .string (strN x.text), .slice (some ⟨b4, o4, none⟩) 2 c4, .int .i64 x.place] 39))
      have hlt8 : w7.heap.size < (w7.alloc (.cells #[.int .i64 x.op, .int .i64 x.num, .string (strN x.text), .slice (some ⟨b4, o4, none⟩) 2 c4, .int .i64 x.place] 39)).heap.size := by simp
      have BW8 := Lib.hid (BW7.out.trans (b8.mono (by omega)))
      have P4' := Lib.hid (cell_kept b8 P4.out (show b4 < w7.heap.size by have := HB7.out.size; omega))
      have P5' := Lib.hid (cell_kept b8 P5.out (show b4 < w7.heap.size by have := HB7.out.size; omega))
      clear b8
      go_wp2_with (first | (refine wpList_load_mid rfl 39 (.tmp 70) rfl b3 o3 rfl [.int .i64 x.op, .int .i64 x.num, .string (strN x.text), .slice (some ⟨b4, o4, none⟩) 2 c4, .int .i64 x.place] _ P3.out Tryd.underlying39 rfl info39s ?_; refine Hid.out ?_) | fail)
      refine Lib.hid ?_
      go_wp2_with fail
      generalize w7.alloc (.cells #[.int .i64 x.op, .int .i64 x.num, .string (strN x.text), .slice (some ⟨b4, o4, none⟩) 2 c4, .int .i64 x.place] 39) = w8 at *
      (with_reducible refine K.out.mono ?_)
      clear K p0 p1 p2
      rintro e w9 ⟨rfl, hb9⟩
      have BW9 := Lib.hid (BW8.out.trans (hb9.mono (by have := BW8.out.size; omega)))
      have HB9 := Lib.hid hb9
      have s9 := hb9.size
      clear hb9
      have K := Lib.hid (loose s HY.out.1 w9)
      go_wp2_with fail
      (with_reducible refine K.out.mono ?_)
      clear K
      rintro e w10 ⟨rfl, hb10⟩
      have BW10 := Lib.hid (BW9.out.trans (hb10.mono (by have := BW9.out.size; omega)))
      have HB10 := HB9.out.trans (hb10.mono s9)
      have x8 : w8.cell? ⟨w7.heap.size, 2, none⟩ = some (.string (strN x.text)) := by rw [Lib.cell_of_heap HX8.out]; rfl
      have x9 : w8.cell? ⟨w7.heap.size, 3, none⟩ = some (.slice (some ⟨b4, o4, none⟩) 2 c4) := by rw [Lib.cell_of_heap HX8.out]; rfl
      have y2 := cell_kept HB10 x8 hlt8
      have y3 := cell_kept HB10 x9 hlt8
      have y4 := cell_kept HB10 P4'.out (show b4 < w8.heap.size by have := HB7.out.size; omega)
      have y5 := cell_kept HB10 P5'.out (show b4 < w8.heap.size by have := HB7.out.size; omega)
      clear hb10 HB10 x8 x9
      have hss : ((strN s).toList == (strN s).toList) = true := by simp
      have htt : ((strN t).toList == (strN t).toList) = true := by simp
      rcases HO.out with ⟨hl, o1', o2', o3'⟩ | ⟨hl, o1', o2', o3'⟩
      · rw [o1'] at y2
        rw [o2'] at y5
        rw [o3', str97] at y4
        have hl' : decide (looseN s < looseN t) = true := by simpa using hl
        clear o1' o2' o3' hl
        go_wp2
        go_ret
        exact ⟨rfl, BW10.out⟩
      · rw [o1'] at y2
        rw [o2'] at y4
        rw [o3', str99] at y5
        have hl' : decide (looseN s < looseN t) = false := by simpa using hl
        clear o1' o2' o3' hl
        go_wp2
        go_ret
        exact ⟨rfl, BW10.out⟩
end
end Go.Proofs.YtoicncfpoklanaaDoor
