/- The live question ahead of every statement answers true, and changes nothing that was there. Conditions: none. -/
import Derived.Test.YtjkdlchfmgefjaaE
namespace Go.Proofs.Ytjkdlchfmgefjaa
open Go.RowKit

theorem putBytes_n (A : Option Addr) (c n : Nat) (l : List Int) (w : World) (hn : l.length = n) (hl : Lies w w.heap.size A c (cellsOf l)) (hl2 : n ≤ 65536) :
    Calls Try.prog 19 #[.slice A n c] w fun e w' => ∃ A' c', e = .returned (.tuple #[.slice A' (4 + n) c', .int .i64 0]) ∧ 4 + n ≤ c' ∧ c' ≤ maxLen ∧
      Lies w' w'.heap.size A' c' (cellsOf (be n 3 4 ++ l)) ∧ Below w.heap.size w w' := by
  subst hn
  exact putBytes A c l w hl hl2
theorem num_n (A : Option Addr) (l : List Int) (n c : Nat) (p : Int) (w : World) (B : Nat) (hn : l.length = n) (hc : n ≤ c) (hcm : c ≤ maxLen) (hp1 : -9223372036854775808 ≤ p) (hp2 : p ≤ 9223372036854775807) (hl : Lies w B A c (cellsOf l)) (hby : Byt l) :
    Calls Try.prog 11 #[.slice A n c, .int .i64 p] w fun e w' => e = .returned (.tuple #[.int .i64 (numA l p), .int .i64 (numB l p), .int .i64 (roomV n p 8)]) ∧ w = w' := by
  subst hn
  exact num A l c p w B hc hcm hp1 hp2 hl hby

/-- a block just made, as a slice that lies -/
theorem lies_new (w : World) (l : List Int) (c : Nat) (fr : Nat × Nat) : Lies (w.alloc (.cells (cellsOf l).toArray 5 fr)) (w.heap.size + 1) (some ⟨w.heap.size, 0, none⟩) c (cellsOf l) := by
  refine ⟨(fun e => by cases e), fun j u hu => ⟨_, rfl, by simp, ?_⟩⟩
  have hb : (w.alloc (.cells (cellsOf l).toArray 5 fr)).heap[w.heap.size]? = some (.cells (cellsOf l).toArray 5 fr) := heap_alloc_new w _
  rw [Addr.add_lit, cell_of_row _ _ _ _ _ _ hb]
  simpa using hu

theorem push_modify (a : Array Obj) (x : Obj) (f : Obj → Obj) : (a.push x).modify a.size f = a.push (f x) := by
  apply Array.ext
  · simp
  · intro i h1 h2
    simp only [Array.getElem_modify, Array.getElem_push]
    by_cases h : a.size = i
    · subst h
      simp
    · have hi : i < a.size := by simp at h1; omega
      simp [h, hi]

/-- a constant string's bytes: the block bears the mark behind its last cell -/
theorem run_marked (w : World) (C : Array Value) (n c : Nat) :
    (convert 22 22 (.slice (some ⟨w.heap.size, 0, none⟩) n c)).run Try.prog (w.alloc (.cells C 5)) = .ok (.slice (some ⟨w.heap.size, 0, none⟩) n c) (w.alloc (.cells C 5 (C.size, C.size + 1))) := by
  have hsh : (w.alloc (.cells C 5)).shape? w.heap.size = some (5, C.size) := by
    have : (w.alloc (.cells C 5)).heap[w.heap.size]? = some (.cells C 5) := heap_alloc_new w _
    unfold World.shape?
    rw [this]
  have hfr : (w.alloc (.cells C 5)).freeze ⟨w.heap.size, C.size, none⟩ 1 = w.alloc (.cells C 5 (C.size, C.size + 1)) := by
    unfold World.freeze
    rw [if_neg (by decide)]
    show ({ w.alloc (.cells C 5) with heap := (w.heap.push (.cells C 5)).modify w.heap.size _ } : World) = _
    rw [push_modify]
    rfl
  simp [convert, run_underlying Try.underlying22, run_underlying Try.underlying5, markStringish, hsh]
  exact hfr

theorem head_str : strOfNums (be (2 : Nat) 3 4 ++ [97, 98]) = ⟨#[0, 0, 0, 2, 97, 98]⟩ := by decide +kernel
theorem head_str1 : strOfNums [if true = true then 1 else 0] = ⟨#[1]⟩ := by decide +kernel
theorem head_num : numA [0, 0, 0, 0, 0, 0, 1, 2] 0 = 258 ∧ numB [0, 0, 0, 0, 0, 0, 1, 2] 0 = 8 ∧ roomV 8 0 8 = 0 := by decide +kernel

set_option maxHeartbeats 400000 in
theorem head_true (w : World) : Calls Try.prog 10 #[] w fun e w' => e = .returned (.bool true) ∧ Below w.heap.size w w' := by
  have hm := run_marked w (cellsOf [97, 98]).toArray 2 2
  simp only [cellsOf, List.map_cons, List.map_nil, List.size_toArray, List.length_cons, List.length_nil] at hm
  go_enter Try.func10, Try.ntmps10
  go_wp2_with fail
  clear hm
  refine (putBytes_n _ 2 2 [97, 98] _ rfl ((lies_new w [97, 98] 2 _).more (by simp)) (by omega)).mono ?_
  rintro e w1 ⟨A1, c1, rfl, h1, h2, h3, hb1⟩
  go_wp2_with fail
  refine (num_n _ [0, 0, 0, 0, 0, 0, 1, 2] 8 8 0 _ (w1.heap.size + 1) rfl (by omega) (by unfold maxLen; omega) (by omega) (by omega) (lies_new w1 _ 8 _) (by intro b hb; simp at hb; omega)).mono ?_
  rintro e w2 ⟨rfl, rfl⟩
  rw [head_num.1, head_num.2.1, head_num.2.2]
  have hconv := fun o => run_string_lies (P := Try.prog) (w1.alloc o) 22 9 5 Try.underlying22 Try.underlying5 Try.underlying9 w1.heap.size A1 (4 + 2) c1 _ rfl (h3.below ((Below.refl _ _).alloc (Nat.le_refl _) o))
  rw [head_str] at hconv
  go_wp2_with fail
  clear hconv
  refine (putBool true _).mono ?_
  rintro e w3 ⟨A3, c3, rfl, h4, h5, h6, hb3⟩
  have hconv := run_string_lies (P := Try.prog) w3 22 9 5 Try.underlying22 Try.underlying5 Try.underlying9 w3.heap.size A3 1 c3 _ rfl h6
  rw [head_str1] at hconv
  go_wp2
  go_ret
  refine ⟨rfl, ?_⟩
  have s1 := hb1.size
  have s3 := hb3.size
  simp only [World.size_alloc] at s1 s3 hb1 hb3
  exact ((((Below.refl _ _).alloc (Nat.le_refl _) _).trans (hb1.mono (by omega))).alloc (by omega) _).trans (hb3.mono (by omega))
end Go.Proofs.Ytjkdlchfmgefjaa
