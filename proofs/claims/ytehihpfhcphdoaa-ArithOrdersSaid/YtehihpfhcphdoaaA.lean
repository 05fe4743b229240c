/- What the program's functions that make values return ('Num', 'Bool'). Conditions: none. -/
import Derived.Test.YtehihpfhcphdoaaT
namespace Go.Proofs.Ytehihpfhcphdoaa
open Go.RowKit

theorem range_two (w : World) (cs : List Value) (T : TypeId) (o : Obj) : ((w.alloc (.cells cs.toArray T)).alloc o).rangeAt w.heap.size 0 cs :=
  range_of (T := T) (by rw [Below.heap_alloc _ _ _ (by simp)]; exact heap_alloc_new w _)
theorem below_two (w : World) (a b : Obj) : Below w.heap.size w ((w.alloc a).alloc b) := (below_alloc w a).alloc (by simp) b

set_option maxHeartbeats 400000 in
theorem numC (n : Int) (w : World) : Calls Try.prog 11 #[.int .i64 n] w fun e w' => e = .returned (VV 1 n nilS) ∧ Below w.heap.size w w' := by
  go_enter Try.func11, Try.ntmps11
  go_wp2
  refine bodyPost_ret (ret_cell (cs := [_, _, _]) Try.results11 Try.underlying26 rfl info26s _ _ w.heap.size rfl (range_of (heap_alloc_new w _))) rfl ?_
  exact ⟨rfl, below_alloc _ _⟩

def b2i (b : Bool) : Int := if b then 1 else 0
set_option maxHeartbeats 400000 in
theorem boolC (b : Bool) (w : World) : Calls Try.prog 17 #[.bool b] w fun e w' => e = .returned (VV 2 (b2i b) nilS) ∧ Below w.heap.size w w' := by
  cases b
  · go_enter Try.func17, Try.ntmps17
    go_wp2
    refine bodyPost_ret (ret_cell (cs := [_, _, _]) Try.results17 Try.underlying26 rfl info26s _ _ w.heap.size rfl (range_two w [_, _, _] 26 _)) rfl ?_
    exact ⟨rfl, below_two _ _ _⟩
  · go_enter Try.func17, Try.ntmps17
    go_wp2
    refine bodyPost_ret (ret_cell (cs := [_, _, _]) Try.results17 Try.underlying26 rfl info26s _ _ w.heap.size rfl (range_two w [_, _, _] 26 _)) rfl ?_
    exact ⟨rfl, below_two _ _ _⟩

set_option maxHeartbeats 400000 in
theorem isTrueC (t n : Int) (k : Value) (w : World) : Calls Try.prog 20 #[VV t n k] w fun e w' => e = .returned (.bool (n == 1)) ∧ Below w.heap.size w w' := by
  go_enter Try.func20, Try.ntmps20
  go_wp2
  go_ret
  exact ⟨rfl, below_alloc _ _⟩

/-- an answer: a value without a text, and a trap -/
structure Ans where
  t : Int
  n : Int
  e : Int
abbrev AV (r : Ans) : Value := .tuple #[VV r.t r.n nilS, .int .i64 r.e]
/-- what the program answers for an int x: it, or that it is too great -/
def ansOf (x : Int) : Ans := if fits x then ⟨1, x, 0⟩ else ⟨0, 0, 3⟩
theorem ansOf_fits {x : Int} (h : fits x) : ansOf x = ⟨1, x, 0⟩ := if_pos h
theorem ansOf_not {x : Int} (h : ¬fits x) : ansOf x = ⟨0, 0, 3⟩ := if_neg h
theorem there_zO (w : World) : (w.alloc zO).there w.heap.size 0 3 := (at_new w 0 0 nilS).2

set_option maxHeartbeats 400000 in
theorem sumC (a b : Int) (w : World) (ha : fits a) (hb : fits b) : Calls Try.prog 24 #[.int .i64 a, .int .i64 b] w fun e w' => e = .returned (AV (ansOf (a + b))) ∧ Below w.heap.size w w' := by
  have hs := sum_bits a b ha hb
  by_cases hf : fits (a + b)
  · rw [ansOf_fits hf]
    have hd : decide (bits .and .i64 (bits .xor .i64 a (wrap64 (a + b))) (bits .xor .i64 b (wrap64 (a + b))) < 0) = false := by rw [hs]; simp [hf]
    have hw := wrap_id hf
    rw [hw] at hd
    have h1 := hf.1
    have h2 := hf.2
    clear hs hw ha hb hf
    go_enter Try.func24, Try.ntmps24
    go_wp2_with fail
    refine (numC _ _).mono ?_
    rintro e w1 ⟨rfl, hb1⟩
    have HT := there_below (there_zO w) hb1 (by simp)
    go_wp2_with (refine wpList_storeN info26s rfl (.tmp 4) (.tmp 20) rfl rfl w.heap.size rfl [_, _, _] rfl rfl HT (by simp [Value.oneCell']) ?_; intro w2 g1 g2 g3 g4 g5)
    refine bodyPost_ret (ret_cell2 (cs := [_, _, _]) Try.results24 Try.underlying26 rfl info26s _ _ w.heap.size rfl g1) rfl ?_
    exact ⟨rfl, ((below_alloc w zO).trans (hb1.mono (by simp))).trans g3⟩
  · rw [ansOf_not hf]
    have hd : decide (bits .and .i64 (bits .xor .i64 a (wrap64 (a + b))) (bits .xor .i64 b (wrap64 (a + b))) < 0) = true := by rw [hs]; simp [hf]
    clear hs ha hb hf
    go_enter Try.func24, Try.ntmps24
    go_wp2
    refine bodyPost_ret (ret_cell2 (cs := [_, _, _]) Try.results24 Try.underlying26 rfl info26s _ _ w.heap.size rfl (range_of (heap_alloc_new w _))) rfl ?_
    exact ⟨rfl, below_alloc _ _⟩
set_option maxHeartbeats 400000 in
theorem diffC (a b : Int) (w : World) (ha : fits a) (hb : fits b) : Calls Try.prog 22 #[.int .i64 a, .int .i64 b] w fun e w' => e = .returned (AV (ansOf (a - b))) ∧ Below w.heap.size w w' := by
  have hs := diff_bits a b ha hb
  by_cases hf : fits (a - b)
  · rw [ansOf_fits hf]
    have hd : decide (bits .and .i64 (bits .xor .i64 a b) (bits .xor .i64 a (wrap64 (a - b))) < 0) = false := by rw [hs]; simp [hf]
    have hw := wrap_id hf
    rw [hw] at hd
    have h1 := hf.1
    have h2 := hf.2
    clear hs hw ha hb hf
    go_enter Try.func22, Try.ntmps22
    go_wp2_with fail
    refine (numC _ _).mono ?_
    rintro e w1 ⟨rfl, hb1⟩
    have HT := there_below (there_zO w) hb1 (by simp)
    go_wp2_with (refine wpList_storeN info26s rfl (.tmp 4) (.tmp 20) rfl rfl w.heap.size rfl [_, _, _] rfl rfl HT (by simp [Value.oneCell']) ?_; intro w2 g1 g2 g3 g4 g5)
    refine bodyPost_ret (ret_cell2 (cs := [_, _, _]) Try.results22 Try.underlying26 rfl info26s _ _ w.heap.size rfl g1) rfl ?_
    exact ⟨rfl, ((below_alloc w zO).trans (hb1.mono (by simp))).trans g3⟩
  · rw [ansOf_not hf]
    have hd : decide (bits .and .i64 (bits .xor .i64 a b) (bits .xor .i64 a (wrap64 (a - b))) < 0) = true := by rw [hs]; simp [hf]
    clear hs ha hb hf
    go_enter Try.func22, Try.ntmps22
    go_wp2
    refine bodyPost_ret (ret_cell2 (cs := [_, _, _]) Try.results22 Try.underlying26 rfl info26s _ _ w.heap.size rfl (range_of (heap_alloc_new w _))) rfl ?_
    exact ⟨rfl, below_alloc _ _⟩
set_option maxHeartbeats 400000 in
theorem prodC (a b : Int) (w : World) (ha : fits a) (hb : fits b) : Calls Try.prog 26 #[.int .i64 a, .int .i64 b] w fun e w' => e = .returned (AV (ansOf (a * b))) ∧ Below w.heap.size w w' := by
  by_cases h0 : a = 0
  · subst h0
    rw [Int.zero_mul, ansOf_fits (by unfold fits; omega)]
    clear ha hb
    go_enter Try.func26, Try.ntmps26
    go_wp2_with fail
    refine (numC _ _).mono ?_
    rintro e w1 ⟨rfl, hb1⟩
    have HT := there_below (there_zO w) hb1 (by simp)
    go_wp2_with (refine wpList_storeN info26s rfl (.tmp 4) (.tmp 9) rfl rfl w.heap.size rfl [_, _, _] rfl rfl HT (by simp [Value.oneCell']) ?_; intro w2 g1 g2 g3 g4 g5)
    refine bodyPost_ret (ret_cell2 (cs := [_, _, _]) Try.results26 Try.underlying26 rfl info26s _ _ w.heap.size rfl g1) rfl ?_
    exact ⟨rfl, ((below_alloc w zO).trans (hb1.mono (by simp))).trans g3⟩
  · by_cases hm : a = -1 ∧ b = -9223372036854775808
    · obtain ⟨rfl, rfl⟩ := hm
      rw [ansOf_not (by unfold fits; omega)]
      clear ha hb h0
      go_enter Try.func26, Try.ntmps26
      go_wp2
      refine bodyPost_ret (ret_cell2 (cs := [_, _, _]) Try.results26 Try.underlying26 rfl info26s _ _ w.heap.size rfl (range_of (heap_alloc_new w _))) rfl ?_
      exact ⟨rfl, below_alloc _ _⟩
    · have hp := prod_found a b ha hb h0 hm
      have hz : (a == 0) = false := by simpa using h0
      have hmm : ((a == -1) && (b == -9223372036854775808)) = false := by
        rw [Bool.and_eq_false_iff]
        by_cases h : a = -1
        · right; simp; intro hh; exact hm ⟨h, hh⟩
        · left; simpa using h
      by_cases hf : fits (a * b)
      · have hd : ((wrap64 ((wrap64 (a * b)).tdiv a)) != b) = false := by rw [hp.2 hf]; simp
        rw [ansOf_fits hf]
        have HW := Lib.hid (wrap_id hf)
        clear hp hm hf ha hb
        cases h1 : (a == -1) with
        | false =>
          clear hmm
          go_enter Try.func26, Try.ntmps26
          go_wp2_with fail
          refine (numC _ _).mono ?_
          rintro e w1 ⟨rfl, hb1⟩
          rw [HW.out]
          have HT := there_below (there_zO w) hb1 (by simp)
          go_wp2_with (refine wpList_storeN info26s rfl (.tmp 4) (.tmp 28) rfl rfl w.heap.size rfl [_, _, _] rfl rfl HT (by simp [Value.oneCell']) ?_; intro w2 g1 g2 g3 g4 g5)
          refine bodyPost_ret (ret_cell2 (cs := [_, _, _]) Try.results26 Try.underlying26 rfl info26s _ _ w.heap.size rfl g1) rfl ?_
          exact ⟨rfl, ((below_alloc w zO).trans (hb1.mono (by simp))).trans g3⟩
        | true =>
          rw [h1] at hmm
          simp only [Bool.true_and] at hmm
          go_enter Try.func26, Try.ntmps26
          go_wp2_with fail
          refine (numC _ _).mono ?_
          rintro e w1 ⟨rfl, hb1⟩
          rw [HW.out]
          have HT := there_below (there_zO w) hb1 (by simp)
          go_wp2_with (refine wpList_storeN info26s rfl (.tmp 4) (.tmp 28) rfl rfl w.heap.size rfl [_, _, _] rfl rfl HT (by simp [Value.oneCell']) ?_; intro w2 g1 g2 g3 g4 g5)
          refine bodyPost_ret (ret_cell2 (cs := [_, _, _]) Try.results26 Try.underlying26 rfl info26s _ _ w.heap.size rfl g1) rfl ?_
          exact ⟨rfl, ((below_alloc w zO).trans (hb1.mono (by simp))).trans g3⟩
      · have hd : ((wrap64 ((wrap64 (a * b)).tdiv a)) != b) = true := by
          rw [bne_iff_ne]
          exact fun h => hf (hp.1 h)
        rw [ansOf_not hf]
        clear hp hm hf ha hb
        cases h1 : (a == -1) with
        | false =>
          clear hmm
          go_enter Try.func26, Try.ntmps26
          go_wp2
          refine bodyPost_ret (ret_cell2 (cs := [_, _, _]) Try.results26 Try.underlying26 rfl info26s _ _ w.heap.size rfl (range_of (heap_alloc_new w _))) rfl ?_
          exact ⟨rfl, below_alloc _ _⟩
        | true =>
          rw [h1] at hmm
          simp only [Bool.true_and] at hmm
          go_enter Try.func26, Try.ntmps26
          go_wp2
          refine bodyPost_ret (ret_cell2 (cs := [_, _, _]) Try.results26 Try.underlying26 rfl info26s _ _ w.heap.size rfl (range_of (heap_alloc_new w _))) rfl ?_
          exact ⟨rfl, below_alloc _ _⟩
end Go.Proofs.Ytehihpfhcphdoaa
