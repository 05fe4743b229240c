/- Stacks as keys of a map: two of them alike; what stands at one, and one put. Conditions: those in each theorem. -/
import Derived.Test.YtilmidjkjgeoeaaDoorCA
import Derived.Test.YtilmidjkjgeoeaaDoorVP
import Derived.MapKept
namespace Go.Proofs.YtilmidjkjgeoeaaDoor
open Go.RowKit Go.MapKept
set_option maxRecDepth 100000
set_option linter.unusedVariables false
set_option linter.unusedSimpArgs false
abbrev Stk := Int × Nat × Nat
def kV (e : Stk) : Value := .agg #[.int .i64 e.1, .int .i64 e.2.1, .int .i64 e.2.2]
theorem eq81 (a b c d e f : Int) (w : World) : (Op.equalIn 10000 81 (.agg #[.int .i64 a, .int .i64 b, .int .i64 c]) (.agg #[.int .i64 d, .int .i64 e, .int .i64 f])).run Tryd.prog w = .ok (a == d && (b == e && c == f)) w := by
  have u3 := Tryd.underlying3
  have a3 := Tryd.isAgg3
  have z3 := Tryd.sizeOf3
  have u27 := Tryd.underlying27
  have a27 := Tryd.isAgg27
  have z27 := Tryd.sizeOf27
  have hS : Tryd.prog.underlying 81 = some (.struct (Tryd.prog.fieldsOf 81)) := by kernel_rfl
  have hp : Tryd.prog.stoodInHeld 81 = false := by kernel_rfl
  rw [show (10000 : Nat) = 9999 + 1 from rfl, run_equalIn_agg w 9999 81 _ _ hS hp]
  simp only [Program.fieldsOf, Tryd.underlying81]
  go_simp
  by_cases h1 : a = d <;> by_cases h2 : b = e <;> by_cases h3 : c = f <;> simp [h1, h2, h3]
theorem check81 (em : Bool) (e : Stk) (w : World) : (Instr.checkKey em 10000 81 (kV e)).run Tryd.prog w = .ok () w := by
  have u3 := Tryd.underlying3
  have a3 := Tryd.isAgg3
  have z3 := Tryd.sizeOf3
  have u27 := Tryd.underlying27
  have a27 := Tryd.isAgg27
  have z27 := Tryd.sizeOf27
  unfold kV
  rw [show (10000 : Nat) = 9999 + 1 from rfl]
  unfold Instr.checkKey
  simp only [Sem.run_bind, run_underlying Tryd.underlying81, Result.andThen_ok]
  go_simp
  rw [MapKept.run_checkKey (k := .int .i64 e.1) u27 rfl, Result.andThen_ok]
  try dsimp only
  rw [MapKept.run_checkKey (k := .int .i64 e.2.1) u3 rfl, Result.andThen_ok]
  try dsimp only
  rw [MapKept.run_checkKey (k := .int .i64 e.2.2) u3 rfl]
  rfl
theorem eq81k (s t : Stk) (w : World) : (Op.equal 81 (kV s) (kV t)).run Tryd.prog w = .ok (s == t) w := by
  obtain ⟨a, b, c⟩ := s
  obtain ⟨d, e, f⟩ := t
  have := eq81 a b c d e f w
  unfold Op.equal kV
  rw [show Op.maxDepth = 10000 from rfl, this]
  have e1 : (a == d && (((b : Int) == (e : Int)) && ((c : Int) == (f : Int)))) = (((a, b, c) : Stk) == (d, e, f)) := by
    rw [Bool.eq_iff_iff]
    simp only [Bool.and_eq_true, beq_iff_eq, Prod.mk.injEq]
    omega
  rw [e1]
/-- the map at block b has these stacks, in the order in which they came -/
def MapE (w : World) (b : Nat) (es : List (Stk × Nat)) : Prop :=
  ∃ arr clock, w.heap[b]? = some (.map arr clock) ∧ arr.toList.map (fun e => (e.key, e.val)) = es.map (fun p => (kV p.1, Value.int .i64 p.2))
theorem MapE.of {w w' : World} {b : Nat} {es : List (Stk × Nat)} (h : MapE w b es) (hb : w'.heap[b]? = w.heap[b]?) : MapE w' b es := by
  obtain ⟨arr, clock, h1, h2⟩ := h
  exact ⟨arr, clock, by rw [hb]; exact h1, h2⟩
theorem MapE.lt {w : World} {b : Nat} {es : List (Stk × Nat)} (h : MapE w b es) : b < w.heap.size := by
  obtain ⟨arr, clock, h1, _⟩ := h
  exact (Array.getElem?_eq_some_iff.1 h1).1
theorem MapE.made (w : World) : MapE (w.alloc (.map #[] 0)) w.heap.size [] := ⟨#[], 0, (MapKept.heap_alloc w _).1, rfl⟩
def seekE (es : List (Stk × Nat)) (s : Stk) : Option Nat := (es.find? (fun p => p.1 == s)).map (·.2)
theorem run_ask (s : Stk) (w : World) : ∀ (l : List MapEntry) (es : List (Stk × Nat)) (i : Nat), l.map (fun e => (e.key, e.val)) = es.map (fun p => (kV p.1, Value.int .i64 p.2)) →
    (seekE es s = none ∧ (Instr.findAsking 81 (kV s) l i).run Tryd.prog w = .ok none w) ∨ ∃ v j, seekE es s = some v ∧ (Instr.findAsking 81 (kV s) l i).run Tryd.prog w = .ok (some (j, .int .i64 (v : Nat))) w
  | [], [], i, _ => .inl ⟨rfl, rfl⟩
  | [], p :: es, i, h => by simp at h
  | e :: l, [], i, h => by simp at h
  | e :: l, p :: es, i, h => by
    simp only [List.map_cons, List.cons.injEq, Prod.mk.injEq] at h
    obtain ⟨⟨hk, hv⟩, h⟩ := h
    have hq := eq81k s p.1 w
    by_cases he : s = p.1
    · refine .inr ⟨p.2, i, ?_, ?_⟩
      · unfold seekE
        rw [List.find?_cons_of_pos (by simp [he])]
        rfl
      · unfold Instr.findAsking
        rw [← he] at hq
        rw [Sem.run_bind, hk, ← he, hq, Result.andThen_ok]
        simp [hv]
    · have hf : seekE (p :: es) s = seekE es s := by
        unfold seekE
        rw [List.find?_cons_of_neg (by simpa using fun e => he e.symm)]
      have hr : (Instr.findAsking 81 (kV s) (e :: l) i).run Tryd.prog w = (Instr.findAsking 81 (kV s) l (i + 1)).run Tryd.prog w := by
        conv => lhs; unfold Instr.findAsking
        rw [Sem.run_bind, hk, hq, Result.andThen_ok]
        simp [he]
      rw [hf, hr]
      exact run_ask s w l es (i + 1) h
theorem now_none (s : Stk) : ∀ (l : List MapEntry) (i : Nat), Instr.findNow (.struct (Tryd.prog.fieldsOf 81)) (kV s) l i = if l = [] then some none else none
  | [], i => rfl
  | e :: l, i => by
    unfold Instr.findNow
    rfl
theorem run_key (s : Stk) (w : World) (l : List MapEntry) (es : List (Stk × Nat)) (h : l.map (fun e => (e.key, e.val)) = es.map (fun p => (kV p.1, Value.int .i64 p.2))) :
    (seekE es s = none ∧ (Instr.findKey 81 (kV s) l).run Tryd.prog w = .ok none w) ∨ ∃ v j, seekE es s = some v ∧ (Instr.findKey 81 (kV s) l).run Tryd.prog w = .ok (some (j, .int .i64 (v : Nat))) w := by
  have hS : Tryd.prog.underlying 81 = some (.struct (Tryd.prog.fieldsOf 81)) := by kernel_rfl
  have hr : (Instr.findKey 81 (kV s) l).run Tryd.prog w = (Instr.findAsking 81 (kV s) l 0).run Tryd.prog w := by
    unfold Instr.findKey
    rw [Sem.run_bind, run_underlying hS, Result.andThen_ok, now_none]
    cases l with
    | nil => rfl
    | cons e l => simp
  rw [hr]
  exact run_ask s w l es 0 h
theorem run_lookE {w : World} {b : Nat} {es : List (Stk × Nat)} (h : MapE w b es) (s : Stk) :
    (Instr.lookup 54 (.map (some b)) (kV s) true).run Tryd.prog w = .ok (.tuple #[.int .i64 ((seekE es s).getD 0 : Nat), .bool (seekE es s).isSome]) w := by
  obtain ⟨arr, clock, h1, h2⟩ := h
  have ht : Tryd.prog.underlying 54 = some (.map 81 3) := Tryd.underlying54
  have hz : (zeroValue 3).run Tryd.prog w = .ok (.int .i64 0) w := by go_simp
  rcases run_key s w arr.toList es h2 with ⟨g1, g2⟩ | ⟨v, j, g1, g2⟩
  · rw [g1]
    simp [Instr.lookup, run_underlying ht, MapKept.run_getObj_map h1, check81, g2, Result.andThen, hz]
  · rw [g1]
    simp [Instr.lookup, run_underlying ht, MapKept.run_getObj_map h1, check81, g2, Result.andThen]
theorem run_putE {w : World} {b : Nat} {es : List (Stk × Nat)} (h : MapE w b es) (s : Stk) (hn : seekE es s = none) (n : Nat) :
    ∃ w', (Instr.mapUpdate 54 (.map (some b)) (kV s) (.int .i64 n)).run Tryd.prog w = .ok () w' ∧ MapE w' b (es ++ [(s, n)]) ∧ w.grownBy w' (some b) ∧ w'.heap.size = w.heap.size := by
  obtain ⟨arr, clock, h1, h2⟩ := h
  have ht : Tryd.prog.underlying 54 = some (.map 81 3) := Tryd.underlying54
  rcases run_key s w arr.toList es h2 with ⟨g1, g2⟩ | ⟨v, j, g1, g2⟩
  · refine ⟨{ w with heap := w.heap.setIfInBounds b (.map (arr.push { key := kV s, val := .int .i64 n, born := clock }) (clock + 1)) }, ?_, ⟨_, _, (MapKept.heap_set h1).1, ?_⟩, ⟨rfl, rfl, rfl, by simp, fun i _ hi => (MapKept.heap_set h1).2 i (fun e => hi (by rw [e]))⟩, by simp⟩
    · simp [Instr.mapUpdate, run_underlying ht, MapKept.run_getObj_map h1, check81, g2, MapKept.run_setObj_map _ h1, Result.andThen]
    · simp [h2]
  · rw [hn] at g1; cases g1
end Go.Proofs.YtilmidjkjgeoeaaDoor
