/- The live question ahead of every statement answers true, and changes nothing that was there. Conditions: none. -/
import Derived.Test.YtncbbjodianmoaaE
namespace Go.Proofs.Ytncbbjodianmoaa
open Go.RowKit

/-- a block just made, as a slice that lies -/
theorem lies_new (w : World) (l : List Int) (c : Nat) (fr : Nat × Nat) : Lies (w.alloc (.cells (cellsOf l).toArray 5 fr)) (w.heap.size + 1) (some ⟨w.heap.size, 0, none⟩) c (cellsOf l) := by
  refine ⟨(fun e => by cases e), fun j u hu => ⟨_, rfl, by simp, ?_⟩⟩
  have hb : (w.alloc (.cells (cellsOf l).toArray 5 fr)).heap[w.heap.size]? = some (.cells (cellsOf l).toArray 5 fr) := heap_alloc_new w _
  rw [Addr.add_lit, cell_of_row _ _ _ _ _ _ hb]
  simpa using hu

theorem push_modify (a : Array Obj) (x : Obj) (f : Obj → Obj) : (a.push x).modify a.size f = a.push (f x) := by
  apply Array.ext
  · simp
  · intro i h1 h2
    simp only [Array.getElem_modify, Array.getElem_push]
    by_cases h : a.size = i
    · subst h
      simp
    · have hi : i < a.size := by simp at h1; omega
      simp [h, hi]

/-- a constant string's bytes: the block bears the mark behind its last cell -/
theorem run_marked (w : World) (C : Array Value) (n c : Nat) :
    (convert 30 30 (.slice (some ⟨w.heap.size, 0, none⟩) n c)).run Try.prog (w.alloc (.cells C 5)) = .ok (.slice (some ⟨w.heap.size, 0, none⟩) n c) (w.alloc (.cells C 5 (C.size, C.size + 1))) := by
  have hsh : (w.alloc (.cells C 5)).shape? w.heap.size = some (5, C.size) := by
    have : (w.alloc (.cells C 5)).heap[w.heap.size]? = some (.cells C 5) := heap_alloc_new w _
    unfold World.shape?
    rw [this]
  have hfr : (w.alloc (.cells C 5)).freeze ⟨w.heap.size, C.size, none⟩ 1 = w.alloc (.cells C 5 (C.size, C.size + 1)) := by
    unfold World.freeze
    rw [if_neg (by decide)]
    show ({ w.alloc (.cells C 5) with heap := (w.heap.push (.cells C 5)).modify w.heap.size _ } : World) = _
    rw [push_modify]
    rfl
  simp [convert, run_underlying Try.underlying30, run_underlying Try.underlying5, markStringish, hsh]
  exact hfr

theorem head_str : strOfNums (be (2 : Nat) 3 4 ++ [97, 98]) = ⟨#[0, 0, 0, 2, 97, 98]⟩ := by decide +kernel
theorem head_str1 : strOfNums [if true = true then 1 else 0] = ⟨#[1]⟩ := by decide +kernel
theorem head_num : numA [0, 0, 0, 0, 0, 0, 1, 2] 0 = 258 ∧ numB [0, 0, 0, 0, 0, 0, 1, 2] 0 = 8 ∧ roomV 8 0 8 = 0 := by decide +kernel

end Go.Proofs.Ytncbbjodianmoaa
