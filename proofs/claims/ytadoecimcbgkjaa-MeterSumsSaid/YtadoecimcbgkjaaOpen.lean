/- The reading of an argument that is gas, or a row of numbers of 16 bits, gives what the walks ask of it. Conditions: none beyond the reading. -/
import Derived.ProofKit
import Derived.OpenShut
import Derived.SizedLaws
import Derived.Lib.SmallJoins
import Derived.Test.YtadoecimcbgkjaaG
import Derived.Test.YtadoecimcbgkjaaBase
namespace Go.Proofs.Ytadoecimcbgkjaa
open Go.ChangeShapes Go.WideShapes Go.ChangeAt Go.RowKit Go.Joins

section
variable {H : Type} {enc : TypeId × Value → H} {w : World} {base b0 : Nat} {held : Bool} {d : DataW H} {ps : List MemPlace} {r : Reach}

theorem lies_of_nums {w : World} {a : Addr} {len cap : Nat} {zs : List Int} (hl : len ≤ cap) (hz : zs.length = cap) (hc : ∀ i, i < cap → w.cell? (a.add i) = some (.int .u16 (zs.getD i 0))) :
    Lies w w.heap.size (some a) cap (cells16 (zs.take len)) := by
  refine ⟨(fun e => by cases e), fun j u hu => ?_⟩
  have hj : j < len := by
    have := (List.getElem?_eq_some_iff.1 hu).1
    simp at this
    omega
  have hcj := hc j (by omega)
  refine ⟨a, rfl, by have := World.block_lt_of_cell? w _ hcj; rwa [addr_block] at this, ?_⟩
  rw [hcj]
  have : zs[j]? = some zs[j] := List.getElem?_eq_getElem (by omega)
  simp [hj, this] at hu
  simp [List.getD, this, hu]

theorem view_words {a : Option Addr} {len cap : Nat} (h : DataW.Trod enc Try.prog w base (fun _ => true) held 31 (.slice a len cap) d ps) :
    ∃ s : List Int, s.length = len ∧ len ≤ cap ∧ cap ≤ maxLen ∧ (∀ x ∈ s, 0 ≤ x ∧ x ≤ 65535) ∧ Lies w w.heap.size a cap (cells16 s) := by
  obtain ⟨fuel, hf⟩ := h
  rcases open_ints Try.underlying31 Try.underlying32 cells32 hf with ⟨hcs, _⟩ | ⟨x, l, c, zs, hcs, _, hl, hm, hz, _, hcell, hwz⟩
  · simp [Value.cells] at hcs
    obtain ⟨rfl, rfl, rfl⟩ := hcs
    exact ⟨[], rfl, Nat.le_refl _, Nat.zero_le _, (fun _ h => by cases h), (fun _ => rfl), (fun j u h => by simp at h)⟩
  · simp [Value.cells] at hcs
    obtain ⟨rfl, rfl, rfl⟩ := hcs
    have hz' : zs.length = cap := by simpa using hz
    refine ⟨zs.take len, by simp; omega, hl, hm, fun b hb => bounds_u16 (hwz b (List.mem_of_mem_take hb)), lies_of_nums hl hz' fun i hi => hcell i (by omega)⟩

theorem view_gas {v : Value} (hv : Value.okWide Try.prog w r b0 23 v) (h : DataW.Trod enc Try.prog w base (fun _ => true) held 23 v d ps) : ∃ l u, v = GV l u ∧ fits l ∧ fits u := by
  obtain ⟨c0, c1, y0, y1, m, rfl, rfl, rfl, hy0, hy1⟩ := open_agg2 Try.underlying23 (by kernel_rfl) cells23 hv h
  obtain ⟨a, e0, rfl, wa⟩ := DataW.trod_int Try.underlying2 hy0
  obtain ⟨b, e1, rfl, wb⟩ := DataW.trod_int Try.underlying2 hy1
  simp at e0 e1
  subst e0 e1
  exact ⟨a, b, rfl, bounds_i64 wa, bounds_i64 wb⟩
end
end Go.Proofs.Ytadoecimcbgkjaa
