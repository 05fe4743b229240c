/- The live question ahead of every statement answers true, and changes nothing that was there. Conditions: none. -/
import Derived.Test.YtecjkmemihmkcaaDoorE
namespace Go.Proofs.YtecjkmemihmkcaaDoor
set_option maxRecDepth 100000
open Go.RowKit

theorem putBytes_n (A : Option Addr) (c n : Nat) (l : List Int) (w : World) (hn : l.length = n) (hl : Lies w w.heap.size A c (cellsOf l)) (hl2 : n ≤ 65536) :
    Calls Tryd.prog 45 #[.slice A n c] w fun e w' => ∃ A' c', e = .returned (.tuple #[.slice A' (4 + n) c', .int .i64 0]) ∧ 4 + n ≤ c' ∧ c' ≤ maxLen ∧
      Lies w' w'.heap.size A' c' (cellsOf (be n 3 4 ++ l)) ∧ Below w.heap.size w w' := by
  subst hn
  exact putBytes A c l w hl hl2
theorem num_n (A : Option Addr) (l : List Int) (n c : Nat) (p : Int) (w : World) (B : Nat) (hn : l.length = n) (hc : n ≤ c) (hcm : c ≤ maxLen) (hp1 : -9223372036854775808 ≤ p) (hp2 : p ≤ 9223372036854775807) (hl : Lies w B A c (cellsOf l)) (hby : Byt l) :
    Calls Tryd.prog 51 #[.slice A n c, .int .i64 p] w fun e w' => e = .returned (.tuple #[.int .i64 (numA l p), .int .i64 (numB l p), .int .i64 (roomV n p 8)]) ∧ w = w' := by
  subst hn
  exact num A l c p w B hc hcm hp1 hp2 hl hby

/-- a block just made, as a slice that lies -/
theorem lies_new (w : World) (l : List Int) (c : Nat) (fr : Nat × Nat) : Lies (w.alloc (.cells (cellsOf l).toArray 5 fr)) (w.heap.size + 1) (some ⟨w.heap.size, 0, none⟩) c (cellsOf l) := by
  refine ⟨(fun e => by cases e), fun j u hu => ⟨_, rfl, by simp, ?_⟩⟩
  have hb : (w.alloc (.cells (cellsOf l).toArray 5 fr)).heap[w.heap.size]? = some (.cells (cellsOf l).toArray 5 fr) := heap_alloc_new w _
  rw [Addr.add_lit, cell_of_row _ _ _ _ _ _ hb]
  simpa using hu

theorem push_modify (a : Array Obj) (x : Obj) (f : Obj → Obj) : (a.push x).modify a.size f = a.push (f x) := by
  apply Array.ext
  · simp
  · intro i h1 h2
    simp only [Array.getElem_modify, Array.getElem_push]
    by_cases h : a.size = i
    · subst h
      simp
    · have hi : i < a.size := by simp at h1; omega
      simp [h, hi]

/-- a constant string's bytes: the block bears the mark behind its last cell -/
theorem run_marked (w : World) (C : Array Value) (n c : Nat) :
    (convert 26 26 (.slice (some ⟨w.heap.size, 0, none⟩) n c)).run Tryd.prog (w.alloc (.cells C 5)) = .ok (.slice (some ⟨w.heap.size, 0, none⟩) n c) (w.alloc (.cells C 5 (C.size, C.size + 1))) := by
  have hsh : (w.alloc (.cells C 5)).shape? w.heap.size = some (5, C.size) := by
    have : (w.alloc (.cells C 5)).heap[w.heap.size]? = some (.cells C 5) := heap_alloc_new w _
    unfold World.shape?
    rw [this]
  have hfr : (w.alloc (.cells C 5)).freeze ⟨w.heap.size, C.size, none⟩ 1 = w.alloc (.cells C 5 (C.size, C.size + 1)) := by
    unfold World.freeze
    rw [if_neg (by decide)]
    show ({ w.alloc (.cells C 5) with heap := (w.heap.push (.cells C 5)).modify w.heap.size _ } : World) = _
    rw [push_modify]
    rfl
  simp [convert, run_underlying Tryd.underlying26, run_underlying Tryd.underlying5, markStringish, hsh]
  exact hfr

theorem head_str : strOfNums (be (2 : Nat) 3 4 ++ [97, 98]) = ⟨#[0, 0, 0, 2, 97, 98]⟩ := by decide +kernel
theorem head_str1 : strOfNums [if true = true then 1 else 0] = ⟨#[1]⟩ := by decide +kernel
theorem head_num : numA [0, 0, 0, 0, 0, 0, 1, 2] 0 = 258 ∧ numB [0, 0, 0, 0, 0, 0, 1, 2] 0 = 8 ∧ roomV 8 0 8 = 0 := by decide +kernel

end Go.Proofs.YtecjkmemihmkcaaDoor
