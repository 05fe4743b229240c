/- The first state of a function; new stacks; a new walk. Conditions: those in each theorem. -/
import Derived.Test.YtilmidjkjgeoeaaDoorVU
import Derived.Laws.OwnMore
namespace Go.Proofs.YtilmidjkjgeoeaaDoor
open Go.RowKit Go.MapKept
set_option maxRecDepth 100000
set_option linter.unusedVariables false
set_option linter.unusedSimpArgs false
theorem stepR_make {P : Program} (w : World) {ops : Array Oper} {o : Oper} {a : Act} {K : Act → World → Prop} {Q : Exit → Act → World → Prop} {E : Prop}
    (hg : o.guard = none) (l c : Operand) (t : TypeId) (hop : o.op = Op.makeSlice t l c)
    (base : Nat) (e : TypeId) (i : TypeInfo) (z : Value) (size : Nat) (h1 : P.underlying t = some (.slice e)) (h2 : P.info? e = some i) (h3 : i.zero = some z) (h4 : i.size = size)
    (kl kc : IntKind) (L C : Int) (n : Nat) (hl : a.eval l = .int kl L) (hc : a.eval c = .int kc C) (hL : L = (n : Int)) (hC : C = (n : Int)) (b2 : i.bytes * n ≤ 281474976710656) (b3 : n ≤ maxLen) (b4 : base ≤ w.heap.size)
    (hK : ∀ w', w'.ownsRow base e size (.slice (some ⟨w.heap.size, 0, none⟩) n n) n (madeCells z.cells (n * size)).toList → w.grownBy w' none → K (a.put o.dst (.slice (some ⟨w.heap.size, 0, none⟩) n n)) w') :
    if Region.wanted o (yielded ops a.tmps) = true then Oper.wp P o a w K Q else E := by
  have hw : Region.wanted o (yielded ops a.tmps) = true := by simp [Region.wanted, hg]
  rw [if_pos hw]
  obtain ⟨w', hrun, r1, r2⟩ := run_make_full (P := P) w base t e i z size h1 h2 h3 h4 kl kc n b2 b3 b4
  subst hL
  subst hC
  unfold Oper.wp
  simp [execOp, hop, hl, hc, hrun, Result.andThen]
  exact hK w' r1 r2
def ws0 : List Nat := [0, 0, 0, 0, 0, 0, 0, 0]
def pl0 : Pl := (false, 0, ws0)
theorem made_places (n : Nat) : (madeCells (Value.agg #[.bool false, .int .i64 0, .int .u64 0, .int .u64 0, .int .u64 0, .int .u64 0, .int .u64 0, .int .u64 0, .int .u64 0, .int .u64 0]).cells (n * 10)).toList = (List.replicate n pl0).flatMap plC := by
  have h8 : ∀ p ∈ List.replicate n pl0, p.2.2.length = 8 := fun p hp => by rw [(List.mem_replicate.1 hp).2]; rfl
  apply List.ext_getElem?
  intro j
  by_cases hj : j < n * 10
  · have h1 : (List.replicate n pl0)[j / 10]? = some pl0 := by rw [List.getElem?_replicate, if_pos (by omega)]
    have hm : j % 10 < 10 := Nat.mod_lt _ (by omega)
    have key : ∀ m, m < 10 → ∃ u, (plC pl0)[m]? = some u ∧ (#[Value.bool false, .int .i64 0, .int .u64 0, .int .u64 0, .int .u64 0, .int .u64 0, .int .u64 0, .int .u64 0, .int .u64 0, .int .u64 0] : Array Value)[m]! = u := by
      intro m hm
      rcases (show m = 0 ∨ m = 1 ∨ m = 2 ∨ m = 3 ∨ m = 4 ∨ m = 5 ∨ m = 6 ∨ m = 7 ∨ m = 8 ∨ m = 9 by omega) with rfl | rfl | rfl | rfl | rfl | rfl | rfl | rfl | rfl | rfl <;> exact ⟨_, rfl, rfl⟩
    obtain ⟨u, hu, hu2⟩ := key (j % 10) hm
    rw [pl_at h8 h1 hu]
    simp only [madeCells, Value.cells, Array.toList_map, List.getElem?_map, Array.toList_range]
    rw [List.getElem?_range hj]
    exact congrArg some hu2
  · rw [List.getElem?_eq_none (by simp [size_madeCells]; omega), List.getElem?_eq_none (by rw [pl_len h8]; simp; omega)]
theorem info71 : (Tryd.prog.info? 71).map (fun i => (i.zero, i.size, i.bytes)) = some (some (.agg #[.bool false, .int .i64 0, .int .u64 0, .int .u64 0, .int .u64 0, .int .u64 0, .int .u64 0, .int .u64 0, .int .u64 0, .int .u64 0]), 10, 80) := by kernel_rfl
def NewSt (w : World) (r : Ending) (w' : World) : Prop := ∃ g m, r = .returned (.agg #[.slice (some ⟨g, 0, none⟩) 1 1, .map (some m)]) ∧ w.heap.size ≤ g ∧ w.heap.size ≤ m ∧ w'.heap[g]? = some (.cells #[.int .i64 0, .int .i64 0, .int .i64 0] 81 (0, 0)) ∧ MapE w' m [] ∧ Below w.heap.size w w'
theorem info56s : (Tryd.prog.info? 56).map (·.size) = some 2 := by kernel_rfl
set_option maxHeartbeats 800000 in
theorem newStC (w : World) : Calls Tryd.prog 22 #[] w (NewSt w) := by
  have hmm : ∀ (t : TypeId) (w : World), (Instr.makeMap t none).run Tryd.prog w = .ok (.map (some w.heap.size)) (w.alloc (.map #[] 0)) := fun t w => rfl
  have B1 := below_alloc w (.cells #[.slice none 0 0, .map none] 56)
  have A1 := heap_alloc_new w (.cells #[.slice none 0 0, .map none] 56)
  have s1 : (w.alloc (.cells #[.slice none 0 0, .map none] 56)).heap.size = w.heap.size + 1 := by simp
  have B2 := below_alloc (w.alloc (.cells #[.slice none 0 0, .map none] 56)) (.cells #[.int .i64 0, .int .i64 0, .int .i64 0] 81)
  have A2 := heap_alloc_new (w.alloc (.cells #[.slice none 0 0, .map none] 56)) (.cells #[.int .i64 0, .int .i64 0, .int .i64 0] 81)
  have B3 := below_alloc ((w.alloc (.cells #[.slice none 0 0, .map none] 56)).alloc (.cells #[.int .i64 0, .int .i64 0, .int .i64 0] 81)) (.map #[] 0)
  have A3 := MapE.made ((w.alloc (.cells #[.slice none 0 0, .map none] 56)).alloc (.cells #[.int .i64 0, .int .i64 0, .int .i64 0] 81))
  have s2 : ((w.alloc (.cells #[.slice none 0 0, .map none] 56)).alloc (.cells #[.int .i64 0, .int .i64 0, .int .i64 0] 81)).heap.size = w.heap.size + 2 := by simp
  rw [s1] at A2
  rw [s2] at A3
  have HS1 := Lib.hid s1
  have HS2 := Lib.hid s2
  have HB : Hid (Below w.heap.size w (((w.alloc (.cells #[.slice none 0 0, .map none] 56)).alloc (.cells #[.int .i64 0, .int .i64 0, .int .i64 0] 81)).alloc (.map #[] 0))) := (B1.trans (B2.mono (by omega))).trans (B3.mono (by omega))
  have HA2 : Hid ((((w.alloc (.cells #[.slice none 0 0, .map none] 56)).alloc (.cells #[.int .i64 0, .int .i64 0, .int .i64 0] 81)).alloc (.map #[] 0)).heap[w.heap.size + 1]? = some (.cells #[.int .i64 0, .int .i64 0, .int .i64 0] 81 (0, 0))) := (B3.block _ (by omega)).trans A2
  have HA1 : Hid ((((w.alloc (.cells #[.slice none 0 0, .map none] 56)).alloc (.cells #[.int .i64 0, .int .i64 0, .int .i64 0] 81)).alloc (.map #[] 0)).heap[w.heap.size]? = some (.cells [Value.slice none 0 0, .map none].toArray 56 (0, 0))) := (B3.block _ (by omega)).trans ((B2.block _ (by omega)).trans A1)
  have HA3 := Lib.hid A3
  clear B1 A1 s1 B2 A2 B3 A3 s2
  go_enter Tryd.func22, Tryd.ntmps22
  go_upto_region 1 with fail
  generalize hW : ((w.alloc (.cells #[.slice none 0 0, .map none] 56)).alloc (.cells #[.int .i64 0, .int .i64 0, .int .i64 0] 81)).alloc (.map #[] 0) = w3 at *
  have HW := Lib.hid hW
  clear hW
  go_wp2_with (first | (rw [HW.out]; refine wpList_storeA info56s rfl (.tmp 0) (.tmp 4) rfl rfl w.heap.size rfl [Value.slice (some ⟨w.heap.size + 1, 0, none⟩) 1 1, .map (some (w.heap.size + 2))] _ rfl rfl HA1.out rfl (by intro u hu; simp at hu; rcases hu with rfl | rfl <;> rfl) ?_; intro w4 g4 o4) | fail)
  refine bodyPost_ret (retV_cell (cs := [Value.slice (some ⟨w.heap.size + 1, 0, none⟩) 1 1, .map (some (w.heap.size + 2))]) Tryd.results22 Tryd.underlying56 rfl info56s _ _ w.heap.size rfl (rangeV_of g4)) rfl ?_
  refine ⟨w.heap.size + 1, w.heap.size + 2, rfl, by omega, by omega, (o4.far _ (by omega)).trans HA2.out, HA3.out.of (o4.far _ (by omega)), HB.out.trans (o4.below (Nat.le_refl _))⟩
end Go.Proofs.YtilmidjkjgeoeaaDoor
