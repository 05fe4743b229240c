/- The reading of an argument that is a row of pairs gives what the walks ask of it, and the form's own reach bounds its length. Conditions: none beyond the reading. -/
import Derived.Test.YtncbbjodianmoaaSm
import Derived.Test.YtncbbjodianmoaaReach
import Derived.Deep.SlicePairs
namespace Go.Proofs.Ytncbbjodianmoaa
open Go.ChangeShapes Go.WideShapes Go.ChangeAt Go.RowKit Go.Deep

theorem bytes42 : Try.prog.bytesOf 47 = 48 := by kernel_rfl
theorem cells23 : Try.prog.cellsOf 30 = 1 := by kernel_rfl
theorem cells42 : Try.prog.cellsOf 47 = 2 := by kernel_rfl

section
variable {H : Type} {enc : TypeId × Value → H} {w : World} {base : Nat} {held : Bool} {d : DataW H} {ps : List MemPlace} {ts : List TypeId} {ds : List (DataW H)}

theorem sb_of {n : Nat} {v : Value} {x : DataW H × List MemPlace} (h : DataW.trod enc Try.prog w base (fun _ => true) held n 30 [v] = some x) : ∃ s, SB w w.heap.size v s := by
  rcases open_ints Try.underlying30 Try.underlying5 cells5 h with ⟨hcs, _⟩ | ⟨x, l, c, zs, hcs, _, hl, hm, hz, _, hcell, hwz⟩
  · injection hcs with hcs _
    subst hcs
    exact ⟨[], SB.nil _ _⟩
  · injection hcs with hcs _
    subst hcs
    have hz' : zs.length = c := by simpa using hz
    have hlen : (zs.take l).length = l := by rw [List.length_take]; omega
    exact ⟨zs.take l, some x, c, by rw [hlen], by omega, hm, lies_of_nums hl hz' fun i hi => hcell i (by omega), fun b hb => wf_u8 (hwz b (List.mem_of_mem_take hb))⟩

theorem prs_of {w : World} {B : Nat} {a : Addr} (cap : Nat) (V0 V1 : Nat → Value) (q : Nat → PR) (hB : a.block < B) : ∀ len,
    (∀ i, i < len → w.cell? (a.add (i * 2)) = some (V0 i) ∧ w.cell? (a.add (i * 2 + 1)) = some (V1 i) ∧ SB w B (V0 i) (q i).1 ∧ SB w B (V1 i) (q i).2) → Prs w B (some a) cap ((List.range len).map q)
  | 0, _ => ⟨[], ⟨(fun e => by cases e), fun j u hu => by simp at hu⟩, .nil⟩
  | len + 1, h => by
    obtain ⟨vs, h1, h2⟩ := prs_of cap V0 V1 q hB len fun i hi => h i (by omega)
    obtain ⟨g1, g2, g3, g4⟩ := h len (by omega)
    have hl := h2.len
    simp at hl
    rw [List.range_succ, List.map_append]
    refine ⟨vs ++ [V0 len, V1 len], ⟨(fun e => by cases e), fun j u hu => ?_⟩, h2.append (.cons g3 g4 .nil)⟩
    rcases Nat.lt_or_ge j vs.length with hj | hj
    · rw [List.getElem?_append_left hj] at hu
      exact h1.2 j u hu
    · rw [List.getElem?_append_right hj] at hu
      refine ⟨a, rfl, hB, ?_⟩
      match hk : j - vs.length, hu with
      | 0, hu =>
        simp at hu
        rw [show j = len * 2 by omega, g1, hu]
      | 1, hu =>
        simp at hu
        rw [show j = len * 2 + 1 by omega, g2, hu]

theorem view_pairs {a : Option Addr} {len cap : Nat} (h : DataW.Trod enc Try.prog w base (fun _ => true) held 22 (.slice a len cap) d ps) :
    ∃ ls : List PR, ls.length = len ∧ len ≤ cap ∧ cap ≤ maxLen ∧ Prs w w.heap.size a cap ls := by
  obtain ⟨fuel, hf⟩ := h
  rcases open_slice_pairs Try.underlying22 Try.underlying47 cells42 rfl rfl cells23 cells23 hf with ⟨hcs, _⟩ | ⟨x, l, c, m, n, V0, V1, D0, D1, P0, P1, hcs, _, hl, hm, hmm, _, hrow⟩
  · simp [Value.cells] at hcs
    obtain ⟨rfl, rfl, rfl⟩ := hcs
    exact ⟨[], rfl, Nat.le_refl _, Nat.zero_le _, Prs.nothing _ _⟩
  · simp [Value.cells] at hcs
    obtain ⟨rfl, rfl, rfl⟩ := hcs
    have hmc : m = cap := by simpa using hmm
    subst hmc
    have each : ∀ i, i < len → ∃ q : PR, SB w w.heap.size (V0 i) q.1 ∧ SB w w.heap.size (V1 i) q.2 := fun i hi => by
      obtain ⟨_, _, t0, t1⟩ := hrow i (by omega)
      obtain ⟨s0, g0⟩ := sb_of t0
      obtain ⟨s1, g1⟩ := sb_of t1
      exact ⟨(s0, s1), g0, g1⟩
    obtain ⟨q, hq⟩ := choose_lt each
    refine ⟨(List.range len).map q, by simp, hl, hm, ?_⟩
    by_cases h0 : len = 0
    · subst h0
      exact ⟨[], ⟨(fun e => by cases e), fun j u hu => by simp at hu⟩, .nil⟩
    · have hb : x.block < w.heap.size := by
        have := World.block_lt_of_cell? w _ (hrow 0 (by omega)).1
        rwa [addr_block] at this
      exact prs_of _ V0 V1 q hb len fun i hi => ⟨(hrow i (by omega)).1, (hrow i (by omega)).2.1, (hq i hi).1, (hq i hi).2⟩

theorem reach_pairs {a : Option Addr} {len cap : Nat} (h : DataW.Trod enc Try.prog w base (fun _ => true) held 22 (.slice a len cap) d ps) (hsz : (DataW.weightsEach Try.prog ts ds).all (· ≤ reachBytes) = true) {j : Nat} (h1 : ts[j]? = some 22) (h2 : ds[j]? = some d) : len ≤ 2932031007402 := by
  obtain ⟨fuel, hf⟩ := h
  rcases open_slice_pairs Try.underlying22 Try.underlying47 cells42 rfl rfl cells23 cells23 hf with ⟨hcs, _⟩ | ⟨x, l, c, m, n, V0, V1, D0, D1, P0, P1, hcs, _, hl, hm, hmm, hx, hrow⟩
  · simp [Value.cells] at hcs
    omega
  · simp [Value.cells] at hcs
    obtain ⟨rfl, rfl, rfl⟩ := hcs
    injection hx with hd _
    subst hd
    have := sized_slice hsz h1 h2 Try.underlying22
    rw [bytes42] at this
    simp only [List.length_map, List.length_range, reachBytes] at this
    omega
end
end Go.Proofs.Ytncbbjodianmoaa
