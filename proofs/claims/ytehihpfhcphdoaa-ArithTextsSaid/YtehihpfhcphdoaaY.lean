/- What 'joined' returns, and 'Two' of two texts with '+'. Conditions: none beyond what a slice is, and the form's own reach. -/
import Derived.Test.YtehihpfhcphdoaaX
namespace Go.Proofs.Ytehihpfhcphdoaa
open Go.RowKit
set_option maxRecDepth 100000

/-- what joining returns where it is too long -/
def JLong (w : World) (e : Ending) (w' : World) : Prop := e = .returned (.tuple #[VV 0 0 nilS, .int .i64 6]) ∧ Below w.heap.size w w'
/-- what joining returns -/
def JOk (w : World) (s u : List Int) (e : Ending) (w' : World) : Prop :=
  ∃ A c, e = .returned (.tuple #[VV 3 0 (.slice A (s.length + u.length) c), .int .i64 0]) ∧ s.length + u.length ≤ c ∧ c ≤ maxLen ∧ Lies w' w'.heap.size A c (cellsOf (s ++ u)) ∧ (∀ ad, A = some ad → w.heap.size ≤ ad.block) ∧ Below w.heap.size w w'

theorem grid_two (w : World) (A B : Option Addr) (c d : Nat) (s u : List Int) (hs : s.length ≤ c) (hcs : c ≤ maxLen) (hu : u.length ≤ d) (hdu : d ≤ maxLen) (h1 : Lies w w.heap.size A c (cellsOf s)) (h2 : Lies w w.heap.size B d (cellsOf u)) (T : TypeId) :
    Grid (w.alloc (.cells #[.slice A s.length c, .slice B u.length d] T)) (w.alloc (.cells #[.slice A s.length c, .slice B u.length d] T)).heap.size (some ⟨w.heap.size, 0, none⟩) 2 [s, u] := by
  have hb := below_alloc w (.cells #[.slice A s.length c, .slice B u.length d] T)
  have hcell : ∀ j, (w.alloc (.cells #[.slice A s.length c, .slice B u.length d] T)).cell? ⟨w.heap.size, j, none⟩ = #[Value.slice A s.length c, .slice B u.length d][j]? := fun j => cell_of_row _ _ _ _ _ _ (heap_alloc_new w _)
  refine ⟨(fun e => by cases e), fun i l hl => ?_⟩
  rcases i with _ | _ | i
  · simp at hl
    subst hl
    exact ⟨_, A, c, rfl, by simp, by rw [Addr.add_lit]; exact hcell 0, hs, hcs, (h1.below hb).more (by simp)⟩
  · simp at hl
    subst hl
    exact ⟨_, B, d, rfl, by simp, by rw [Addr.add_lit]; exact hcell 1, hu, hdu, (h2.below hb).more (by simp)⟩
  · simp at hl

set_option maxHeartbeats 800000 in
theorem join_long (A B : Option Addr) (n m c d : Nat) (w : World) (b1 : n ≤ 140737488355328) (b2 : m ≤ 140737488355328) (hlong : 256 < n + m) :
    Calls Try.prog 25 #[.slice A n c, .slice B m d] w (JLong w) := by
  go_enter Try.func25, Try.ntmps25
  go_wp2
  refine bodyPost_ret (ret_cell2 (cs := [_, _, _]) Try.results25 Try.underlying26 rfl info26s _ _ w.heap.size rfl (range_of (heap_alloc_new w _))) rfl ?_
  exact ⟨rfl, below_alloc _ _⟩
set_option maxHeartbeats 800000 in
theorem join_ok (A B : Option Addr) (c d : Nat) (s u : List Int) (w : World) (hs : s.length ≤ c) (hcs : c ≤ maxLen) (hu : u.length ≤ d) (hdu : d ≤ maxLen) (hle : s.length + u.length ≤ 256) (h1 : Lies w w.heap.size A c (cellsOf s)) (h2 : Lies w w.heap.size B d (cellsOf u)) :
    Calls Try.prog 25 #[.slice A s.length c, .slice B u.length d] w (JOk w s u) := by
  have hz := below_alloc w zO
  have HG := Lib.hid (grid_two (w.alloc zO) A B c d s u hs hcs hu hdu ((h1.below hz).more (by simp)) ((h2.below hz).more (by simp)) 24)
  have K := Lib.hid (concatC _ _ _ 2 _ rfl HG.out (by omega) (by omega) (by simp [lenTo]; omega))
  rw [show lenTo [s, u] 2 = s.length + u.length by simp [lenTo], show catTo [s, u] 2 = s ++ u by simp [catTo]] at K
  simp only [World.size_alloc] at K
  clear h1 h2 HG hz
  go_enter Try.func25, Try.ntmps25
  go_wp2_with fail
  refine K.out.mono ?_
  rintro e w1 ⟨v, rfl, ho, hb1⟩
  obtain ⟨A1, c1, rfl, q1, q2, q3⟩ := own_lies ho
  have HF := Lib.hid (own_from ho)
  have HL := Lib.hid q3
  have HT := there_below (there_below (there_zO w) (below_alloc (w.alloc zO) (.cells #[.slice A s.length c, .slice B u.length d] 24)) (by simp)) hb1 (by omega)
  have HB := Lib.hid hb1
  clear ho q3 hb1 K
  go_wp2_with (refine wpList_storeN info26s rfl (.tmp 4) (.tmp 17) rfl rfl w.heap.size rfl [_, _, _] rfl rfl HT (by simp [Value.oneCell']) ?_; intro w2 g1 g2 g3 g4 g5)
  refine bodyPost_ret (ret_cell2 (cs := [_, _, _]) Try.results25 Try.underlying26 rfl info26s _ _ w.heap.size rfl g1) rfl ?_
  refine ⟨A1, c1, rfl, q1, q2, ?_, fun ad e => ?_, ?_⟩
  · rw [g5]
    exact HL.out.other (fun ad e => by subst e; have := HF.out ad _ _ rfl; omega) g4
  · subst e
    have := HF.out ad _ _ rfl
    omega
  · exact ((below_two w _ _).trans (HB.out.mono (by omega))).trans g3

set_option maxHeartbeats 400000 in
theorem row_plusT (w : World) : Calls Try.prog 19 #[.string ⟨#[43]⟩] w fun e w' => e = .returned (.agg #[.func (.func 24) #[] #[], .nilFunc, .func (.func 25) #[] #[]]) ∧ Below w.heap.size w w' := by
  go_enter Try.func19, Try.ntmps19
  go_wp2_with (refine wpList_storeN info47s rfl (.tmp 2) (.tmp 6) rfl rfl w.heap.size rfl [_, _, _] rfl rfl (there_rO w) (by simp [Value.oneCell']) ?_; intro w2 g1 g2 g3 g4 g5)
  refine bodyPost_ret (ret_cell (cs := [_, _, _]) Try.results19 Try.underlying47 rfl info47s _ _ w.heap.size rfl g1) rfl ?_
  exact ⟨rfl, (below_alloc w rO).trans g3⟩
set_option maxHeartbeats 1600000 in
theorem twoT_long (A B : Option Addr) (n m c d : Nat) (w : World) (b1 : n ≤ 140737488355328) (b2 : m ≤ 140737488355328) (hlong : 256 < n + m) :
    Calls Try.prog 10 #[.string ⟨#[43]⟩, VV 3 0 (.slice A n c), VV 3 0 (.slice B m d)] w (JLong w) := by
  have H0 := Lib.hid (three_new w 3 0 3 0 (.slice A n c) (.slice B m d))
  have hq := fun fn caps w => neq_fn 45 Try.underlying45 ⟨_, _, _, rfl⟩ fn caps w
  have K := Lib.hid (fun w => join_long A B n m c d w b1 b2 hlong)
  clear b1 b2 hlong
  go_enter Try.func10, Try.ntmps10
  go_wp2_with fail
  refine (row_plusT _).mono ?_
  rintro e w1 ⟨rfl, hb1⟩
  have H1 := Lib.hid (H0.out.below hb1)
  clear hb1 H0
  go_wp2_with (refine wpList_storeN info47s rfl (.tmp 8) (.tmp 16) rfl rfl w1.heap.size rfl [_, _, _] rfl rfl (there_rO w1) (by simp [Value.oneCell']) ?_; intro w2 g1 g2 g3 g4 g5; have hb2 : Below w1.heap.size w1 w2 := (below_alloc w1 rO).trans g3; obtain ⟨x0, x1, x2⟩ := (H1.out.below hb2).x.cells; obtain ⟨y0, y1, y2⟩ := (H1.out.below hb2).y.cells; obtain ⟨r0, r1, r2⟩ := row_cells g1; clear g1 g2 g3 g4 g5)
  refine (K.out _).mono ?_
  rintro e w3 ⟨rfl, hb3⟩
  have H3 := Lib.hid ((H1.out.below hb2).below hb3)
  clear x0 x1 x2 y0 y1 y2 r0 r1 r2 hb2 hb3
  go_wp2_with (refine wpList_storeN info26s rfl (.tmp 6) (.tmp 68) rfl rfl (w.heap.size + 1 + 1) rfl [_, _, _] rfl rfl H3.out.z.2 (by simp [Value.oneCell']) ?_; intro w4 g1 g2 g3 g4 g5)
  refine bodyPost_ret (ret_cell2 (cs := [_, _, _]) Try.results10 Try.underlying26 rfl info26s _ _ (w.heap.size + 1 + 1) rfl g1) rfl ?_
  exact ⟨rfl, H3.out.bl.trans (g3.mono (by omega))⟩
set_option maxHeartbeats 1600000 in
theorem twoT_ok (A B : Option Addr) (c d : Nat) (s u : List Int) (w : World) (hs : s.length ≤ c) (hcs : c ≤ maxLen) (hu : u.length ≤ d) (hdu : d ≤ maxLen) (hle : s.length + u.length ≤ 256) (h1 : Lies w w.heap.size A c (cellsOf s)) (h2 : Lies w w.heap.size B d (cellsOf u)) :
    Calls Try.prog 10 #[.string ⟨#[43]⟩, VV 3 0 (.slice A s.length c), VV 3 0 (.slice B u.length d)] w (JOk w s u) := by
  have H0 := Lib.hid (three_new w 3 0 3 0 (.slice A s.length c) (.slice B u.length d))
  have hq := fun fn caps w => neq_fn 45 Try.underlying45 ⟨_, _, _, rfl⟩ fn caps w
  have K : Hid (∀ w', Below w.heap.size w w' → Calls Try.prog 25 #[.slice A s.length c, .slice B u.length d] w' (JOk w' s u)) := fun w' hb => join_ok A B c d s u w' hs hcs hu hdu hle ((h1.below hb).more hb.size) ((h2.below hb).more hb.size)
  clear h1 h2 hcs hdu
  go_enter Try.func10, Try.ntmps10
  go_wp2_with fail
  refine (row_plusT _).mono ?_
  rintro e w1 ⟨rfl, hb1⟩
  have H1 := Lib.hid (H0.out.below hb1)
  clear hb1 H0
  go_wp2_with (refine wpList_storeN info47s rfl (.tmp 8) (.tmp 16) rfl rfl w1.heap.size rfl [_, _, _] rfl rfl (there_rO w1) (by simp [Value.oneCell']) ?_; intro w2 g1 g2 g3 g4 g5; have hb2 : Below w1.heap.size w1 w2 := (below_alloc w1 rO).trans g3; obtain ⟨x0, x1, x2⟩ := (H1.out.below hb2).x.cells; obtain ⟨y0, y1, y2⟩ := (H1.out.below hb2).y.cells; obtain ⟨r0, r1, r2⟩ := row_cells g1; clear g1 g2 g3 g4 g5)
  have H2 := Lib.hid (H1.out.below hb2)
  refine (K.out _ H2.out.bl).mono ?_
  rintro e w3 ⟨A3, c3, rfl, q1, q2, q3, q4, hb3⟩
  have H3 := Lib.hid (H2.out.below hb3)
  have Q3 := Lib.hid q3
  have Q4 := Lib.hid q4
  have hs2 := H2.out.sz
  clear x0 x1 x2 y0 y1 y2 r0 r1 r2 hb2 hb3 q3 q4
  go_wp2_with (refine wpList_storeN info26s rfl (.tmp 6) (.tmp 68) rfl rfl (w.heap.size + 1 + 1) rfl [_, _, _] rfl rfl H3.out.z.2 (by simp [Value.oneCell']) ?_; intro w4 g1 g2 g3 g4 g5)
  refine bodyPost_ret (ret_cell2 (cs := [_, _, _]) Try.results10 Try.underlying26 rfl info26s _ _ (w.heap.size + 1 + 1) rfl g1) rfl ?_
  refine ⟨A3, c3, rfl, q1, q2, ?_, fun ad e => ?_, H3.out.bl.trans (g3.mono (by omega))⟩
  · rw [g5]
    exact Q3.out.other (fun ad e => by have := Q4.out ad e; omega) g4
  · have := Q4.out ad e
    omega
end Go.Proofs.Ytehihpfhcphdoaa
