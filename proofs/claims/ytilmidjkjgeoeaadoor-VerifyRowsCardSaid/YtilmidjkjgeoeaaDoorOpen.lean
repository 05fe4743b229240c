/- The reading of an argument that is a byte string, or a row of byte strings, gives what the walks ask of it; nothing of the program. Conditions: none beyond the reading. -/
import Derived.ProofKit
import Derived.OpenShut
import Derived.Deep.Matrix
import Derived.Test.YtilmidjkjgeoeaaDoorCA
import Derived.Test.YtilmidjkjgeoeaaDoorCA
namespace Go.Proofs.YtilmidjkjgeoeaaDoor
set_option maxRecDepth 100000
open Go.ChangeShapes Go.WideShapes Go.ChangeAt Go.RowKit Go.Deep

theorem wf_u8 {n : Int} (h : (Lit.int .u8 n).wf = true) : 0 ≤ n ∧ n < 256 := by
  have := bounds_u8 h
  omega

section
variable {H : Type} {enc : TypeId × Value → H} {P : Program} {w : World} {base : Nat} {held : Bool} {d : DataW H} {ps : List MemPlace}

theorem lies_of_nums {w : World} {a : Addr} {len cap : Nat} {zs : List Int} (hl : len ≤ cap) (hz : zs.length = cap) (hc : ∀ i, i < cap → w.cell? (a.add i) = some (.int .u8 (zs.getD i 0))) :
    Lies w w.heap.size (some a) cap (cellsOf (zs.take len)) := by
  refine ⟨(fun e => by cases e), fun j u hu => ?_⟩
  have hj : j < len := by
    have := (List.getElem?_eq_some_iff.1 hu).1
    simp at this
    omega
  have hcj := hc j (by omega)
  refine ⟨a, rfl, by have := World.block_lt_of_cell? w _ hcj; rwa [addr_block] at this, ?_⟩
  rw [hcj]
  have : zs[j]? = some zs[j] := List.getElem?_eq_getElem (by omega)
  simp [hj, this] at hu
  simp [List.getD, this, hu]

theorem view_bytes {t e : TypeId} {a : Option Addr} {len cap : Nat} (ht : P.underlying t = some (.slice e)) (he : P.underlying e = some (.int .u8)) (hc : P.cellsOf e = 1)
    (h : DataW.Trod enc P w base (fun _ => true) held t (.slice a len cap) d ps) :
    ∃ s : List Int, s.length = len ∧ len ≤ cap ∧ cap ≤ maxLen ∧ Byt s ∧ Lies w w.heap.size a cap (cellsOf s) := by
  obtain ⟨fuel, hf⟩ := h
  rcases open_ints ht he hc hf with ⟨hcs, _⟩ | ⟨x, l, c, zs, hcs, _, hl, hm, hz, _, hcell, hwz⟩
  · simp [Value.cells] at hcs
    obtain ⟨rfl, rfl, rfl⟩ := hcs
    exact ⟨[], rfl, Nat.le_refl _, Nat.zero_le _, Byt.nil, Lies.nothing _ _⟩
  · simp [Value.cells] at hcs
    obtain ⟨rfl, rfl, rfl⟩ := hcs
    have hz' : zs.length = cap := by simpa using hz
    refine ⟨zs.take len, by simp; omega, hl, hm, fun b hb => wf_u8 (hwz b (List.mem_of_mem_take hb)), lies_of_nums hl hz' fun i hi => hcell i (by omega)⟩

theorem view_rows {t e q : TypeId} {a : Option Addr} {len cap : Nat} (ht : P.underlying t = some (.slice e)) (he : P.underlying e = some (.slice q)) (hq : P.underlying q = some (.int .u8)) (ce : P.cellsOf e = 1) (cq : P.cellsOf q = 1)
    (h : DataW.Trod enc P w base (fun _ => true) held t (.slice a len cap) d ps) :
    ∃ ls : List (List Int), ls.length = len ∧ len ≤ cap ∧ cap ≤ maxLen ∧ (∀ l ∈ ls, Byt l) ∧ Grid w w.heap.size a cap ls := by
  obtain ⟨fuel, hf⟩ := h
  rcases open_int_rows ht he hq ce cq hf with ⟨hcs, _⟩ | ⟨x, l, c, A, L, C, Z, hcs, _, hl, hm, _, hrow⟩
  · simp [Value.cells] at hcs
    obtain ⟨rfl, rfl, rfl⟩ := hcs
    exact ⟨[], rfl, Nat.le_refl _, Nat.zero_le _, (fun l hl => by cases hl), Grid.nothing _ _⟩
  · simp [Value.cells] at hcs
    obtain ⟨rfl, rfl, rfl⟩ := hcs
    refine ⟨(List.range len).map fun r => (Z r).take (L r), by simp, hl, hm, ?_, (fun e => by cases e), fun i l hi => ?_⟩
    · intro l hl'
      obtain ⟨r, hr, rfl⟩ := List.mem_map.1 hl'
      have hr' : r < cap := by have := List.mem_range.1 hr; omega
      exact fun b hb => wf_u8 ((hrow r hr').2.2.2.2.1 b (List.mem_of_mem_take hb))
    · have hil : i < len := by
        have := (List.getElem?_eq_some_iff.1 hi).1
        simpa using this
      have e : l = (Z i).take (L i) := by
        simp [List.getElem?_range hil] at hi
        exact hi.symm
      obtain ⟨h1, h2, h3, h4, _, h6, h7⟩ := hrow i (by omega)
      have hlen : l.length = L i := by rw [e, List.length_take]; omega
      refine ⟨x, A i, C i, rfl, by have := World.block_lt_of_cell? w _ h1; rwa [addr_block] at this, by rw [hlen]; exact h1, by omega, h3, ?_⟩
      rw [e]
      cases hA : A i with
      | none =>
        have hC := h6 hA
        have : (Z i).take (L i) = [] := List.eq_nil_of_length_eq_zero (by rw [List.length_take]; omega)
        rw [this, hC]
        exact Lies.nothing _ _
      | some a' => exact lies_of_nums h2 h4 (h7 a' hA).2
end
end Go.Proofs.YtilmidjkjgeoeaaDoor
