/- The live question ahead of every statement answers true, and changes nothing that was there. Conditions: the table of sixteen lies as the program lays it. -/
import Derived.Test.YtjilifodmmhnkaaDoorD
namespace Go.Proofs.YtjilifodmmhnkaaDoor
open Go.RowKit

theorem push_modify (a : Array Obj) (x : Obj) (f : Obj → Obj) : (a.push x).modify a.size f = a.push (f x) := by
  apply Array.ext
  · simp
  · intro i h1 h2
    simp only [Array.getElem_modify, Array.getElem_push]
    by_cases h : a.size = i
    · subst h
      simp
    · have hi : i < a.size := by simp at h1; omega
      simp [h, hi]
/-- a constant string's bytes: the block bears the mark behind its last cell -/
theorem run_marked (w : World) (C : Array Value) (n c : Nat) :
    (convert 22 22 (.slice (some ⟨w.heap.size, 0, none⟩) n c)).run Tryd.prog (w.alloc (.cells C 5)) = .ok (.slice (some ⟨w.heap.size, 0, none⟩) n c) (w.alloc (.cells C 5 (C.size, C.size + 1))) := by
  have hsh : (w.alloc (.cells C 5)).shape? w.heap.size = some (5, C.size) := by
    have : (w.alloc (.cells C 5)).heap[w.heap.size]? = some (.cells C 5) := heap_alloc_new w _
    unfold World.shape?
    rw [this]
  have hfr : (w.alloc (.cells C 5)).freeze ⟨w.heap.size, C.size, none⟩ 1 = w.alloc (.cells C 5 (C.size, C.size + 1)) := by
    unfold World.freeze
    rw [if_neg (by decide)]
    show ({ w.alloc (.cells C 5) with heap := (w.heap.push (.cells C 5)).modify w.heap.size _ } : World) = _
    rw [push_modify]
    rfl
  simp [convert, run_underlying Tryd.underlying22, run_underlying Tryd.underlying5, markStringish, hsh]
  exact hfr

/-- what was sealed is opened as it was -/
theorem opE_seal (l : List Int) : opE (four (crcI l) ++ l) = 0 := by
  unfold opE
  have h1 : (four (crcI l) ++ l).take 4 = four (crcI l) := by rw [List.take_append_of_le_length (by simp [four_length]), List.take_of_length_le (by simp [four_length])]
  have h2 : (four (crcI l) ++ l).drop 4 = l := by rw [List.drop_append_of_le_length (by simp [four_length]), List.drop_of_length_le (by simp [four_length])]; simp
  rw [if_neg (by simp [four_length]), h1, h2, if_pos rfl]
theorem opL_seal (l : List Int) : opL (four (crcI l) ++ l) = l := by
  unfold opL
  rw [if_pos (opE_seal l)]
  rw [List.drop_append_of_le_length (by simp [four_length]), List.drop_of_length_le (by simp [four_length])]; simp
theorem seal_byt {l : List Int} (h : Byt l) : Byt (four (crcI l) ++ l) := (four_byt (crcI_lt l)).append h
theorem seal_length (l : List Int) : (four (crcI l) ++ l).length = l.length + 4 := by simp [four_length]; omega

theorem head_bad : opE [1, 0, 0, 0] = 21 := by decide +kernel
theorem head_sum : crcI [49, 50, 51, 52, 53, 54, 55, 56, 57] = 3808858755 := by decide +kernel
theorem head_str : strOfNums [97] = ⟨#[97]⟩ := by decide +kernel
theorem byt97 : Byt [97] := by intro b hb; simp at hb; omega
theorem byt1000 : Byt [1, 0, 0, 0] := by intro b hb; simp at hb; omega
theorem byt19 : Byt [49, 50, 51, 52, 53, 54, 55, 56, 57] := by intro b hb; simp at hb; omega

/-- the contract of 'Open' where what is opened is owned -/
theorem open_own (l : List Int) (n : Nat) (base : Nat) (v : Value) (w : World) (hn : l.length = n) (ho : w.ownsRow base 5 1 v n (cellsOf l)) (hr : n ≤ 140737488351300) (hy : Byt l) (ht : Tab w) :
    Calls Tryd.prog 11 #[v] w (OpenO w (opL l) (opE l)) := by
  obtain ⟨A, c, rfl, h1, h2, h3⟩ := own_lies ho
  exact openO A l n c w hn h1 h2 hr h3 hy ht

set_option maxHeartbeats 800000 in
theorem head_true (w : World) (ht : Tab w) : Calls Tryd.prog 9 #[] w fun e w' => e = .returned (.bool true) ∧ Below w.heap.size w w' := by
  have hm := run_marked w (cellsOf [97]).toArray 1 1
  simp only [cellsOf, List.map_cons, List.map_nil, List.size_toArray, List.length_cons, List.length_nil, Nat.zero_add, Nat.reduceAdd] at hm
  have HT := Lib.hid ht
  have hpos := ht.1
  clear ht
  go_enter Tryd.func9, Tryd.ntmps9
  go_wp2_with fail
  clear hm
  have b0 := (Below.refl w.heap.size w).alloc (Nat.le_refl _) (.cells (cellsOf [97]).toArray 5 (1, 2))
  have l0 := lies_new w [97] 1 5 (1, 2)
  simp only [cellsOf, List.map_cons, List.map_nil] at b0 l0
  refine (sealO _ [97] 1 1 _ rfl (by omega) (by unfold maxLen; omega) (by omega) (l0.more (by simp)) byt97 (HT.out.below b0 hpos)).mono ?_
  rintro e w1 ⟨v1, rfl, ho1, hb1⟩
  have s0 := b0.size
  have bw1 := b0.trans (hb1.mono s0)
  have s1 := bw1.size
  go_wp2_with fail
  refine (open_own _ _ _ v1 _ rfl ho1 (by rw [seal_length]; simp) (seal_byt byt97) (HT.out.below bw1 hpos)).mono ?_
  rw [opE_seal, opL_seal]
  rintro e w2 ⟨v2, rfl, ho2, hb2⟩
  have bw2 := bw1.trans (hb2.mono s1)
  have s2 := bw2.size
  clear ho1 hb1 hb2 l0 b0 s0
  have b3 := bw2.alloc s2 (.cells (cellsOf [1, 0, 0, 0]).toArray 5)
  have l3 := lies_new w2 [1, 0, 0, 0] 4 5 (0, 0)
  simp only [cellsOf, List.map_cons, List.map_nil] at b3 l3
  have B3 := Lib.hid b3
  have L3 := Lib.hid l3
  clear b3 l3
  go_wp2_with fail
  refine (openO _ [1, 0, 0, 0] 4 4 _ rfl (by omega) (by unfold maxLen; omega) (by omega) (L3.out.more (by simp)) byt1000 (HT.out.below B3.out hpos)).mono ?_
  rw [head_bad]
  rintro e w4 ⟨v4, rfl, _, hb4⟩
  have bw4 := B3.out.trans (hb4.mono B3.out.size)
  have s4 := bw4.size
  have ho4 := own_below (own_below ho2 ((Below.refl _ _).alloc (Nat.le_refl _) (.cells (cellsOf [1, 0, 0, 0]).toArray 5)) (Nat.le_refl _)) hb4 (Nat.le_refl _)
  clear ho2 hb4 B3 L3
  have hm := run_marked w4 (cellsOf [49, 50, 51, 52, 53, 54, 55, 56, 57]).toArray 9 9
  have b5 := bw4.alloc s4 (.cells (cellsOf [49, 50, 51, 52, 53, 54, 55, 56, 57]).toArray 5 (9, 10))
  have l5 := lies_new w4 [49, 50, 51, 52, 53, 54, 55, 56, 57] 9 5 (9, 10)
  have ho5 := own_below ho4 ((Below.refl _ _).alloc (Nat.le_refl _) (.cells (cellsOf [49, 50, 51, 52, 53, 54, 55, 56, 57]).toArray 5 (9, 10))) (Nat.le_refl _)
  simp only [cellsOf, List.map_cons, List.map_nil, List.size_toArray, List.length_cons, List.length_nil, Nat.zero_add, Nat.reduceAdd] at hm b5 l5 ho5
  have B5 := Lib.hid b5
  have L5 := Lib.hid l5
  have O5 := Lib.hid ho5
  clear b5 l5 ho5 ho4
  go_wp2_with fail
  clear hm
  refine (sum _ [49, 50, 51, 52, 53, 54, 55, 56, 57] 9 _ _ (by simp) (by unfold maxLen; omega) L5.out byt19 (HT.out.below B5.out hpos)).mono ?_
  rw [head_sum]
  rintro e w6 ⟨rfl, rfl⟩
  obtain ⟨A, c, rfl, h1, h2, h3⟩ := own_lies O5.out
  have hconv := run_string_lies (P := Tryd.prog) _ 22 9 5 Tryd.underlying22 Tryd.underlying5 Tryd.underlying9 _ A 1 c [97] rfl h3
  rw [head_str] at hconv
  clear h3
  have hfin := B5.out
  go_wp2
  go_ret
  exact ⟨rfl, hfin⟩
end Go.Proofs.YtjilifodmmhnkaaDoor
