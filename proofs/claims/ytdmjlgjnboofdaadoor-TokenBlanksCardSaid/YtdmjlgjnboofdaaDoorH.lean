/- The live question ahead of every statement answers true, and changes nothing that was there. Conditions: the tables lie as the program lays them. -/
import Derived.Test.YtdmjlgjnboofdaaDoorG
namespace Go.Proofs.YtdmjlgjnboofdaaDoor
open Go.RowKit

theorem push_modify (a : Array Obj) (x : Obj) (f : Obj → Obj) : (a.push x).modify a.size f = a.push (f x) := by
  apply Array.ext
  · simp
  · intro i h1 h2
    simp only [Array.getElem_modify, Array.getElem_push]
    by_cases h : a.size = i
    · subst h
      simp
    · have hi : i < a.size := by simp at h1; omega
      simp [h, hi]
/-- a constant string's bytes: the block bears the mark behind its last cell -/
theorem run_marked (w : World) (C : Array Value) (n c : Nat) :
    (convert 22 22 (.slice (some ⟨w.heap.size, 0, none⟩) n c)).run Tryd.prog (w.alloc (.cells C 5)) = .ok (.slice (some ⟨w.heap.size, 0, none⟩) n c) (w.alloc (.cells C 5 (C.size, C.size + 1))) := by
  have hsh : (w.alloc (.cells C 5)).shape? w.heap.size = some (5, C.size) := by
    have : (w.alloc (.cells C 5)).heap[w.heap.size]? = some (.cells C 5) := heap_alloc_new w _
    unfold World.shape?
    rw [this]
  have hfr : (w.alloc (.cells C 5)).freeze ⟨w.heap.size, C.size, none⟩ 1 = w.alloc (.cells C 5 (C.size, C.size + 1)) := by
    unfold World.freeze
    rw [if_neg (by decide)]
    show ({ w.alloc (.cells C 5) with heap := (w.heap.push (.cells C 5)).modify w.heap.size _ } : World) = _
    rw [push_modify]
    rfl
  simp [convert, run_underlying Tryd.underlying22, run_underlying Tryd.underlying5, markStringish, hsh]
  exact hfr
/-- a block just made, as a slice that lies -/
theorem lies_new (w : World) (l : List Nat) (c : Nat) (t : TypeId) (fr : Nat × Nat) : Lies (w.alloc (.cells (bts l).toArray t fr)) (w.heap.size + 1) (some ⟨w.heap.size, 0, none⟩) c (bts l) := by
  refine ⟨(fun e => by cases e), fun j u hu => ⟨_, rfl, by simp, ?_⟩⟩
  have hb : (w.alloc (.cells (bts l).toArray t fr)).heap[w.heap.size]? = some (.cells (bts l).toArray t fr) := heap_alloc_new w _
  rw [Addr.add_lit, cell_of_row _ _ _ _ _ _ hb]
  simpa using hu

theorem toksC_get : ∀ (ts : List Tok) (i j : Nat) (t : Tok), ts[i]? = some t → j < 4 → (toksC ts)[i * 4 + j]? = (tokC t)[j]?
  | [], i, j, t, h, _ => by simp at h
  | x :: ts, 0, j, t, h, hj => by
    simp at h
    subst h
    show (tokC x ++ toksC ts)[0 * 4 + j]? = _
    rw [List.getElem?_append_left (by simp [tokC]; omega)]
    simp
  | x :: ts, i + 1, j, t, h, hj => by
    have ih := toksC_get ts i j t (by simpa using h) hj
    show (tokC x ++ toksC ts)[(i + 1) * 4 + j]? = _
    rw [List.getElem?_append_right (by simp [tokC]; omega)]
    rw [show (i + 1) * 4 + j - (tokC x).length = i * 4 + j by simp [tokC]; omega]
    exact ih
/-- the token at a place of a row -/
def TokAt (w : World) (g i : Nat) (t : Tok) : Prop :=
  w.cell? ⟨g, i * 4, none⟩ = some (.int .i64 t.kind) ∧ w.cell? ⟨g, i * 4 + 1, none⟩ = some (.string (strN t.text)) ∧ w.cell? ⟨g, i * 4 + 2, none⟩ = some (.int .i64 t.num) ∧ w.cell? ⟨g, i * 4 + 3, none⟩ = some (.int .i64 t.place)
theorem own_tok {w : World} {base : Nat} {v : Value} {n : Nat} {ts : List Tok} (h : w.ownsRow base 33 4 v n (toksC ts)) (hn : 0 < n) :
    ∃ g cap, v = .slice (some ⟨g, 0, none⟩) n cap ∧ base ≤ g ∧ g < w.heap.size ∧ ∀ i t, ts[i]? = some t → TokAt w g i t := by
  rcases h.2 with ⟨_, h2⟩ | ⟨g, cap, cur, rfl, hb, _⟩
  · omega
  · refine ⟨g, cap, rfl, hb, (h.lt g rfl).2, fun i t ht => ?_⟩
    have key : ∀ j u, j < 4 → (tokC t)[j]? = some u → w.cell? ⟨g, i * 4 + j, none⟩ = some u := fun j u hj hu => by
      have h1 := h.cells rfl (i * 4 + j) u ((toksC_get ts i j t ht hj).trans hu)
      rw [Addr.add_lit, Nat.zero_add] at h1
      exact h1
    exact ⟨key 0 _ (by omega) rfl, key 1 _ (by omega) rfl, key 2 _ (by omega) rfl, key 3 _ (by omega) rfl⟩
theorem TokAt.below {w w' : World} {B g i : Nat} {t : Tok} (h : TokAt w g i t) (hb : Below B w w') (hg : g < B) : TokAt w' g i t :=
  ⟨(hb.cell (p := ⟨g, _, none⟩) hg).trans h.1, (hb.cell (p := ⟨g, _, none⟩) hg).trans h.2.1, (hb.cell (p := ⟨g, _, none⟩) hg).trans h.2.2.1, (hb.cell (p := ⟨g, _, none⟩) hg).trans h.2.2.2⟩

theorem head1 : lexed [120, 60, 61, 49, 50, 32, 35, 32, 121] = ⟨0, [⟨1, [120], 0, 0⟩, ⟨4, [60, 61], 0, 1⟩, ⟨2, [], 12, 3⟩], 0⟩ := by kernel_rfl
theorem head2 : lexed [32, 34, 97] = ⟨31, [], 1⟩ := by kernel_rfl
theorem word1 : isWord [102, 110] = true := by kernel_rfl
theorem word2 : isWord [120] = false := by kernel_rfl
theorem str1 : strN [102, 110] = ⟨#[102, 110]⟩ := by kernel_rfl
theorem str2 : strN [120] = ⟨#[120]⟩ := by kernel_rfl
theorem str3 : strN [60, 61] = ⟨#[60, 61]⟩ := by kernel_rfl
theorem byn1 : Byn [120, 60, 61, 49, 50, 32, 35, 32, 121] := by unfold Byn; decide
theorem byn2 : Byn [32, 34, 97] := by unfold Byn; decide
theorem byn3 : Byn [102, 110] := by unfold Byn; decide
theorem byn4 : Byn [120] := by unfold Byn; decide

set_option maxHeartbeats 400000 in
theorem head_true (w : World) (ht : Tab w) : Calls Tryd.prog 9 #[] w fun e w' => e = .returned (.bool true) ∧ Below w.heap.size w w' := by
  have hm : (convert 22 22 (.slice (some ⟨w.heap.size, 0, none⟩) 9 9)).run Tryd.prog (w.alloc (.cells #[.int .u8 120, .int .u8 60, .int .u8 61, .int .u8 49, .int .u8 50, .int .u8 32, .int .u8 35, .int .u8 32, .int .u8 121] 5)) = .ok (.slice (some ⟨w.heap.size, 0, none⟩) 9 9) (w.alloc (.cells #[.int .u8 120, .int .u8 60, .int .u8 61, .int .u8 49, .int .u8 50, .int .u8 32, .int .u8 35, .int .u8 32, .int .u8 121] 5 (9, 10))) := run_marked w _ 9 9
  have B0 := Lib.hid (below_alloc w (.cells #[.int .u8 120, .int .u8 60, .int .u8 61, .int .u8 49, .int .u8 50, .int .u8 32, .int .u8 35, .int .u8 32, .int .u8 121] 5 (9, 10)))
  have L0 : Hid (Lies (w.alloc (.cells #[.int .u8 120, .int .u8 60, .int .u8 61, .int .u8 49, .int .u8 50, .int .u8 32, .int .u8 35, .int .u8 32, .int .u8 121] 5 (9, 10))) (w.heap.size + 1) (some ⟨w.heap.size, 0, none⟩) 9 (bts [120, 60, 61, 49, 50, 32, 35, 32, 121])) := lies_new w [120, 60, 61, 49, 50, 32, 35, 32, 121] 9 5 (9, 10)
  have HT := Lib.hid ht
  have hpos := ht.1
  clear ht
  go_enter Tryd.func9, Tryd.ntmps9
  go_wp2_with fail
  clear hm
  refine (lex _ [120, 60, 61, 49, 50, 32, 35, 32, 121] 9 _ (by simp) (by unfold maxLen; omega) (L0.out.more (by simp)) byn1 (HT.out.below B0.out hpos)).mono ?_
  rw [head1]
  rintro e w1 ⟨v1, rfl, ho1, hb1⟩
  have bw1 := B0.out.trans (hb1.mono B0.out.size)
  have s1 := bw1.size
  obtain ⟨g, cap, rfl, hg1, hg2, hrow⟩ := own_tok ho1 (by decide)
  have T1 := Lib.hid (hrow 1 _ rfl)
  have T2 := Lib.hid (hrow 2 _ rfl)
  have BW1 := Lib.hid bw1
  clear ho1 hb1 hrow bw1 B0 L0
  have hm : (convert 22 22 (.slice (some ⟨w1.heap.size, 0, none⟩) 3 3)).run Tryd.prog (w1.alloc (.cells #[.int .u8 32, .int .u8 34, .int .u8 97] 5)) = .ok (.slice (some ⟨w1.heap.size, 0, none⟩) 3 3) (w1.alloc (.cells #[.int .u8 32, .int .u8 34, .int .u8 97] 5 (3, 4))) := run_marked w1 _ 3 3
  have B0 := Lib.hid (below_alloc w1 (.cells #[.int .u8 32, .int .u8 34, .int .u8 97] 5 (3, 4)))
  have L0 : Hid (Lies (w1.alloc (.cells #[.int .u8 32, .int .u8 34, .int .u8 97] 5 (3, 4))) (w1.heap.size + 1) (some ⟨w1.heap.size, 0, none⟩) 3 (bts [32, 34, 97])) := lies_new w1 [32, 34, 97] 3 5 (3, 4)
  go_wp2_with fail
  clear hm
  refine (lex _ [32, 34, 97] 3 _ (by simp) (by unfold maxLen; omega) (L0.out.more (by simp)) byn2 ((HT.out.below BW1.out hpos).below B0.out (by omega))).mono ?_
  rw [head2]
  rintro e w2 ⟨v2, rfl, _, hb2⟩
  have bw2 := B0.out.trans (hb2.mono B0.out.size)
  have bw := BW1.out.trans (bw2.mono s1)
  have BW := Lib.hid bw
  have T1' : w2.cell? ⟨g, 5, none⟩ = some (.string ⟨#[60, 61]⟩) := by rw [← str3]; exact (T1.out.below bw2 hg2).2.1
  have T2' : w2.cell? ⟨g, 10, none⟩ = some (.int .i64 12) := (T2.out.below bw2 hg2).2.2.1
  have K1 := Lib.hid (word [102, 110] w2 byn3 (HT.out.below BW.out hpos))
  have K2 := Lib.hid (word [120] w2 byn4 (HT.out.below BW.out hpos))
  clear hb2 bw2 B0 L0 T1 T2 BW1 bw
  rw [word1, str1] at K1
  rw [word2, str2] at K2
  go_wp2_with fail
  refine K1.out.mono ?_
  rintro e w' ⟨rfl, rfl⟩
  go_wp2_with fail
  refine K2.out.mono ?_
  rintro e w' ⟨rfl, rfl⟩
  go_wp2
  go_ret
  exact ⟨rfl, BW.out⟩
end Go.Proofs.YtdmjlgjnboofdaaDoor
