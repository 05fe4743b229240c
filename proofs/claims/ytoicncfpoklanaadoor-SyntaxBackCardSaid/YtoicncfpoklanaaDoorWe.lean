/- What the program's writer does with an expression. Conditions: the writer and the expression lie in memory, and there is room; numbers are written as said. -/
import Derived.Test.YtoicncfpoklanaaDoorWq
namespace Go.Proofs.YtoicncfpoklanaaDoor
open Go.RowKit
set_option maxRecDepth 100000
set_option linter.unusedSimpArgs false
set_option linter.unusedVariables false

theorem Wr.below {R : Nat} {t : List Nat} {w w' : World} (h : Wr R t w) (hb : Below w.heap.size w w') : Stp R w t w' := by
  have hR := h.lt
  have hk : Lib.OthersKept 5 (some R) w w' := fun k o ho _ _ => by rw [hb.block k (Array.getElem?_eq_some_iff.1 ho).1]; exact ho
  refine ⟨?_, hb.mono (Nat.le_of_lt hR), hk⟩
  have key : ∀ q, Lib.BuilderAtF 66 5 R R q (Lib.byteCells (u8s t)) w → Lib.BuilderAtF 66 5 R R q (Lib.byteCells (u8s t)) w' := fun q ⟨h1, v, h2, h3, h4⟩ =>
    ⟨h1, v, by rw [hb.block R hR]; exact h2, ⟨h3.1, by
      rcases h3.2 with hn | ⟨g, cap, cur, fz, e, g1, g2, g3⟩
      · exact .inl hn
      · exact .inr ⟨g, cap, cur, fz, e, g1, by rw [hb.block g (Array.getElem?_eq_some_iff.1 g2).1]; exact g2, g3⟩⟩, h4⟩
  rcases h with h | h
  · exact .inl (key _ h)
  · exact .inr (key _ h)
theorem exprAtz (R : Nat) (T : World → Prop) (l : List Ex) (hE : ∀ e ∈ l, ExprWr R T e) (V : Value) (i : Nat) (z : Int) (hz : z = i) (t : List Nat) (w : World) (hW : Wr R t w) (hT : T w) (hV : ExsC w (· < R) l V) (hlen : (t ++ atK (showL l) i).length ≤ 140737488355328) :
    Calls Tryd.prog 59 #[.pointer (some ⟨R, 0, none⟩), V, .int .i64 z] w (Puts R t (atK (showL l) i) w) := by
  subst hz
  exact exprAt R T l hE V i t w hW hT hV hlen
theorem operationz (R : Nat) (T : World → Prop) (hT0 : ∀ w w', T w → Below R w w' → T w') (l : List Ex) (hE : ∀ e ∈ l, ExprWr R T e) (V : Value) (by' : ByteArray) (word : List Nat) (hb : by' = strN word) (n : Nat) (z : Int) (hz : z = n) (t : List Nat) (w : World) (hW : Wr R t w) (hT : T w) (hV : ExsC w (· < R) l V) (hlen : (t ++ opT word n (showL l)).length ≤ 140737488355328) :
    Calls Tryd.prog 60 #[.pointer (some ⟨R, 0, none⟩), .string by', .int .i64 z, V] w (Puts R t (opT word n (showL l)) w) := by
  subst hz
  exact operation R T hT0 l hE V by' word hb n t w hW hT hV hlen
def exBox (op num : Nat) (text : List Nat) (k : Value) (place : Nat) : Obj := .cells #[.int .i64 op, .int .i64 num, .string (strN text), k, .int .i64 place] 39 (0, 0)
theorem formatBool (b : Bool) (w : World) : Calls Tryd.prog 76 #[.bool b] w fun e w' => e = .returned (.string (strN (bif b then [116, 114, 117, 101] else [102, 97, 108, 115, 101]))) ∧ w = w' := by
  have e1 : strN [116, 114, 117, 101] = ⟨#[116, 114, 117, 101]⟩ := by kernel_rfl
  have e2 : strN [102, 97, 108, 115, 101] = ⟨#[102, 97, 108, 115, 101]⟩ := by kernel_rfl
  cases b
  · rw [cond_false, e2]
    clear e1 e2
    go_enter Tryd.func76, Tryd.ntmps76
    go_wp2
    go_ret
    exact ⟨rfl, rfl⟩
  · rw [cond_true, e1]
    clear e1 e2
    go_enter Tryd.func76, Tryd.ntmps76
    go_wp2
    go_ret
    exact ⟨rfl, rfl⟩
set_option maxHeartbeats 800000 in
theorem exprW3 {R : Nat} {T : World → Prop} {p : Nat → Bool} (hF : Fm R p T) (op num : Nat) (text : List Nat) (kids : List Ex) (place : Nat) (hop : op = 3) (hp : p num = true) (hE : ∀ x ∈ kids, ExprWr R T x) : ExprWr R T (.mk op num text kids place) := by
  intro k t w hW hT hV hlen
  have hV' : ExsC w (· < R) kids k := hV
  obtain ⟨A, cp, rfl⟩ := exsC_slice hV'
  have hsh : showE (.mk op num text kids place) = ([34] ++ text ++ [34]) := by rw [showE_eq]; subst hop; rfl
  rw [hsh] at hlen ⊢
  have q1 : (((op : Nat) : Int) == 1) = false := by rw [hop]; rfl
  have q2 : (((op : Nat) : Int) == 2) = false := by rw [hop]; rfl
  have q3 : (((op : Nat) : Int) == 3) = true := by rw [hop]; rfl
  have HSh := Lib.hid hsh
  have hlR := hW.lt
  have S0 := Stp.alloc hW (exBox op num text (.slice A kids.length cp) place)
  have HB := Lib.hid (heap_alloc_new w (exBox op num text (.slice A kids.length cp) place))
  have hT1 := hF.kept _ _ hT S0.2.1
  have hV1 := hV'.same (below_same S0.2.1)
  have HTV : Hid (∀ u w', Stp R (w.alloc (exBox op num text (.slice A kids.length cp) place)) u w' → T w' ∧ ExsC w' (· < R) kids (.slice A kids.length cp)) := fun u w' h => ⟨hF.kept _ _ hT1 h.2.1, hV1.same (below_same h.2.1)⟩
  have HS0 := Lib.hid S0
  have hll := hlen
  simp only [List.length_append] at hll
  have HLL := Lib.hid hll
  have K := Lib.hid (put3z R ⟨#[34]⟩ _ ⟨#[34]⟩ [34] text [34] (t) (w.alloc (exBox op num text (.slice A kids.length cp) place)) S0.1 (by kernel_rfl) rfl (by kernel_rfl) (by simp only [List.length_append] at hll ⊢; omega) (w.heap.size + 1) (by simp))
  clear S0 hT1 hV1 hV hV' hW hT hlen hsh hop hll
  change Calls Tryd.prog 66 #[.pointer (some ⟨R, 0, none⟩), .agg #[.int .i64 op, .int .i64 num, .string (strN text), (.slice A kids.length cp), .int .i64 place]] w _
  unfold exBox at *
  go_enter Tryd.func66, Tryd.ntmps66
  go_wp2_with fail
  generalize w.alloc (.cells #[.int .i64 op, .int .i64 num, .string (strN text), (.slice A kids.length cp), .int .i64 place] 39) = w1 at *
  (with_reducible refine K.out.mono ?_)
  clear K
  rintro e' w2 hp1
  have hr1 := hp1.1
  subst hr1
  have HS2 := Lib.hid ((Stp.start HS0.out.1).next hp1)
  clear hp1
  go_wp2
  go_end0
  have hfin := HS0.out.trans HS2.out
  refine Stp.puts ?_
  simpa using hfin
set_option maxHeartbeats 800000 in
theorem exprW4 {R : Nat} {T : World → Prop} {p : Nat → Bool} (hF : Fm R p T) (op num : Nat) (text : List Nat) (kids : List Ex) (place : Nat) (hop : op = 4) (hp : p num = true) (hE : ∀ x ∈ kids, ExprWr R T x) : ExprWr R T (.mk op num text kids place) := by
  intro k t w hW hT hV hlen
  have hV' : ExsC w (· < R) kids k := hV
  obtain ⟨A, cp, rfl⟩ := exsC_slice hV'
  have hsh : showE (.mk op num text kids place) = text := by rw [showE_eq]; subst hop; rfl
  rw [hsh] at hlen ⊢
  have q1 : (((op : Nat) : Int) == 1) = false := by rw [hop]; rfl
  have q2 : (((op : Nat) : Int) == 2) = false := by rw [hop]; rfl
  have q3 : (((op : Nat) : Int) == 3) = false := by rw [hop]; rfl
  have q4 : (((op : Nat) : Int) == 4) = true := by rw [hop]; rfl
  have HSh := Lib.hid hsh
  have hlR := hW.lt
  have S0 := Stp.alloc hW (exBox op num text (.slice A kids.length cp) place)
  have HB := Lib.hid (heap_alloc_new w (exBox op num text (.slice A kids.length cp) place))
  have hT1 := hF.kept _ _ hT S0.2.1
  have hV1 := hV'.same (below_same S0.2.1)
  have HTV : Hid (∀ u w', Stp R (w.alloc (exBox op num text (.slice A kids.length cp) place)) u w' → T w' ∧ ExsC w' (· < R) kids (.slice A kids.length cp)) := fun u w' h => ⟨hF.kept _ _ hT1 h.2.1, hV1.same (below_same h.2.1)⟩
  have HS0 := Lib.hid S0
  have hll := hlen
  simp only [List.length_append] at hll
  have HLL := Lib.hid hll
  have K := Lib.hid (put1z R _ text (t) (w.alloc (exBox op num text (.slice A kids.length cp) place)) S0.1 rfl (by simp only [List.length_append] at hll ⊢; omega) (w.heap.size + 1) (by simp))
  clear S0 hT1 hV1 hV hV' hW hT hlen hsh hop hll
  change Calls Tryd.prog 66 #[.pointer (some ⟨R, 0, none⟩), .agg #[.int .i64 op, .int .i64 num, .string (strN text), (.slice A kids.length cp), .int .i64 place]] w _
  unfold exBox at *
  go_enter Tryd.func66, Tryd.ntmps66
  go_wp2_with fail
  generalize w.alloc (.cells #[.int .i64 op, .int .i64 num, .string (strN text), (.slice A kids.length cp), .int .i64 place] 39) = w1 at *
  (with_reducible refine K.out.mono ?_)
  clear K
  rintro e' w2 hp1
  have hr1 := hp1.1
  subst hr1
  have HS2 := Lib.hid ((Stp.start HS0.out.1).next hp1)
  clear hp1
  go_wp2
  go_end0
  have hfin := HS0.out.trans HS2.out
  refine Stp.puts ?_
  simpa using hfin
set_option maxHeartbeats 800000 in
theorem exprW5 {R : Nat} {T : World → Prop} {p : Nat → Bool} (hF : Fm R p T) (op num : Nat) (text : List Nat) (kids : List Ex) (place : Nat) (hop : op = 5) (hp : p num = true) (hE : ∀ x ∈ kids, ExprWr R T x) : ExprWr R T (.mk op num text kids place) := by
  intro k t w hW hT hV hlen
  have hV' : ExsC w (· < R) kids k := hV
  obtain ⟨A, cp, rfl⟩ := exsC_slice hV'
  have hsh : showE (.mk op num text kids place) = opT text kids.length (showL kids) := by rw [showE_eq]; subst hop; show opT text (showL kids).length (showL kids) = _; rw [showL_length]
  rw [hsh] at hlen ⊢
  have q1 : (((op : Nat) : Int) == 1) = false := by rw [hop]; rfl
  have q2 : (((op : Nat) : Int) == 2) = false := by rw [hop]; rfl
  have q3 : (((op : Nat) : Int) == 3) = false := by rw [hop]; rfl
  have q4 : (((op : Nat) : Int) == 4) = false := by rw [hop]; rfl
  have q5 : (((op : Nat) : Int) == 5) = true := by rw [hop]; rfl
  have HSh := Lib.hid hsh
  have hlR := hW.lt
  have S0 := Stp.alloc hW (exBox op num text (.slice A kids.length cp) place)
  have HB := Lib.hid (heap_alloc_new w (exBox op num text (.slice A kids.length cp) place))
  have hT1 := hF.kept _ _ hT S0.2.1
  have hV1 := hV'.same (below_same S0.2.1)
  have HTV : Hid (∀ u w', Stp R (w.alloc (exBox op num text (.slice A kids.length cp) place)) u w' → T w' ∧ ExsC w' (· < R) kids (.slice A kids.length cp)) := fun u w' h => ⟨hF.kept _ _ hT1 h.2.1, hV1.same (below_same h.2.1)⟩
  have HS0 := Lib.hid S0
  have hll := hlen
  simp only [List.length_append] at hll
  have HLL := Lib.hid hll
  have K := Lib.hid (operationz R T hF.kept kids hE (.slice A kids.length cp) _ text rfl kids.length _ rfl (t) (w.alloc (exBox op num text (.slice A kids.length cp) place)) S0.1 hT1 hV1 (by simp only [List.length_append] at hll ⊢; omega))
  clear S0 hT1 hV1 hV hV' hW hT hlen hsh hop hll
  change Calls Tryd.prog 66 #[.pointer (some ⟨R, 0, none⟩), .agg #[.int .i64 op, .int .i64 num, .string (strN text), (.slice A kids.length cp), .int .i64 place]] w _
  unfold exBox at *
  go_enter Tryd.func66, Tryd.ntmps66
  go_wp2_with fail
  generalize w.alloc (.cells #[.int .i64 op, .int .i64 num, .string (strN text), (.slice A kids.length cp), .int .i64 place] 39) = w1 at *
  (with_reducible refine K.out.mono ?_)
  clear K
  rintro e' w2 hp1
  have hr1 := hp1.1
  subst hr1
  have HS2 := Lib.hid ((Stp.start HS0.out.1).next hp1)
  clear hp1
  go_wp2
  go_end0
  have hfin := HS0.out.trans HS2.out
  refine Stp.puts ?_
  simpa using hfin
set_option maxHeartbeats 800000 in
theorem exprW6 {R : Nat} {T : World → Prop} {p : Nat → Bool} (hF : Fm R p T) (op num : Nat) (text : List Nat) (kids : List Ex) (place : Nat) (hop : op = 6) (hp : p num = true) (hE : ∀ x ∈ kids, ExprWr R T x) : ExprWr R T (.mk op num text kids place) := by
  intro k t w hW hT hV hlen
  have hV' : ExsC w (· < R) kids k := hV
  obtain ⟨A, cp, rfl⟩ := exsC_slice hV'
  have hsh : showE (.mk op num text kids place) = [40] ++ atK (showL kids) 0 ++ ([32] ++ text ++ [32]) ++ atK (showL kids) 1 ++ [41] := by rw [showE_eq]; subst hop; rfl
  rw [hsh] at hlen ⊢
  have q1 : (((op : Nat) : Int) == 1) = false := by rw [hop]; rfl
  have q2 : (((op : Nat) : Int) == 2) = false := by rw [hop]; rfl
  have q3 : (((op : Nat) : Int) == 3) = false := by rw [hop]; rfl
  have q4 : (((op : Nat) : Int) == 4) = false := by rw [hop]; rfl
  have q5 : (((op : Nat) : Int) == 5) = false := by rw [hop]; rfl
  have q6 : (((op : Nat) : Int) == 6) = true := by rw [hop]; rfl
  have HSh := Lib.hid hsh
  have hlR := hW.lt
  have S0 := Stp.alloc hW (exBox op num text (.slice A kids.length cp) place)
  have HB := Lib.hid (heap_alloc_new w (exBox op num text (.slice A kids.length cp) place))
  have hT1 := hF.kept _ _ hT S0.2.1
  have hV1 := hV'.same (below_same S0.2.1)
  have HTV : Hid (∀ u w', Stp R (w.alloc (exBox op num text (.slice A kids.length cp) place)) u w' → T w' ∧ ExsC w' (· < R) kids (.slice A kids.length cp)) := fun u w' h => ⟨hF.kept _ _ hT1 h.2.1, hV1.same (below_same h.2.1)⟩
  have HS0 := Lib.hid S0
  have hll := hlen
  simp only [List.length_append] at hll
  have HLL := Lib.hid hll
  have K := Lib.hid (put1z R ⟨#[40]⟩ [40] (t) (w.alloc (exBox op num text (.slice A kids.length cp) place)) S0.1 (by kernel_rfl) (by simp only [List.length_append] at hll ⊢; omega) (w.heap.size + 1) (by simp))
  clear S0 hT1 hV1 hV hV' hW hT hlen hsh hop hll
  change Calls Tryd.prog 66 #[.pointer (some ⟨R, 0, none⟩), .agg #[.int .i64 op, .int .i64 num, .string (strN text), (.slice A kids.length cp), .int .i64 place]] w _
  unfold exBox at *
  go_enter Tryd.func66, Tryd.ntmps66
  go_wp2_with fail
  generalize w.alloc (.cells #[.int .i64 op, .int .i64 num, .string (strN text), (.slice A kids.length cp), .int .i64 place] 39) = w1 at *
  (with_reducible refine K.out.mono ?_)
  clear K
  rintro e' w2 hp1
  have hr1 := hp1.1
  subst hr1
  have HS2 := Lib.hid ((Stp.start HS0.out.1).next hp1)
  clear hp1
  have b2 := HS2.out.block HB.out (by omega) (by decide)
  have c3 : w2.cell? ⟨w.heap.size, 3, none⟩ = some (.slice A kids.length cp) := by rw [Lib.cell_of_heap b2]; rfl
  have hll := HLL.out
  have K := Lib.hid (exprAtz R T kids hE (.slice A kids.length cp) 0 0 rfl (t ++ [40]) w2 HS2.out.1 (HTV.out _ _ HS2.out).1 (HTV.out _ _ HS2.out).2 (by simp only [List.length_append] at hll ⊢; omega))
  clear b2 hll
  go_wp2_with fail
  (with_reducible refine K.out.mono ?_)
  clear K
  rintro e' w3 hp1
  have hr1 := hp1.1
  subst hr1
  have HS3 := Lib.hid (HS2.out.next hp1)
  clear hp1
  have b3 := HS3.out.block HB.out (by omega) (by decide)
  have c2 : w3.cell? ⟨w.heap.size, 2, none⟩ = some (.string (strN text)) := by rw [Lib.cell_of_heap b3]; rfl
  have hll := HLL.out
  have K := Lib.hid (put3z R ⟨#[32]⟩ _ ⟨#[32]⟩ [32] text [32] (t ++ [40] ++ atK (showL kids) 0) w3 HS3.out.1 (by kernel_rfl) rfl (by kernel_rfl) (by simp only [List.length_append] at hll ⊢; omega) w3.heap.size rfl)
  clear b3 hll
  go_wp2_with fail
  (with_reducible refine K.out.mono ?_)
  clear K
  rintro e' w4 hp1
  have hr1 := hp1.1
  subst hr1
  have HS4 := Lib.hid (HS3.out.next hp1)
  clear hp1
  have b4 := HS4.out.block HB.out (by omega) (by decide)
  have c3 : w4.cell? ⟨w.heap.size, 3, none⟩ = some (.slice A kids.length cp) := by rw [Lib.cell_of_heap b4]; rfl
  have hll := HLL.out
  have K := Lib.hid (exprAtz R T kids hE (.slice A kids.length cp) 1 1 rfl (t ++ [40] ++ atK (showL kids) 0 ++ ([32] ++ text ++ [32])) w4 HS4.out.1 (HTV.out _ _ HS4.out).1 (HTV.out _ _ HS4.out).2 (by simp only [List.length_append] at hll ⊢; omega))
  clear b4 hll
  go_wp2_with fail
  (with_reducible refine K.out.mono ?_)
  clear K
  rintro e' w5 hp1
  have hr1 := hp1.1
  subst hr1
  have HS5 := Lib.hid (HS4.out.next hp1)
  clear hp1
  have b5 := HS5.out.block HB.out (by omega) (by decide)
  have hll := HLL.out
  have K := Lib.hid (put1z R ⟨#[41]⟩ [41] (t ++ [40] ++ atK (showL kids) 0 ++ ([32] ++ text ++ [32]) ++ atK (showL kids) 1) w5 HS5.out.1 (by kernel_rfl) (by simp only [List.length_append] at hll ⊢; omega) w5.heap.size rfl)
  clear b5 hll
  go_wp2_with fail
  (with_reducible refine K.out.mono ?_)
  clear K
  rintro e' w6 hp1
  have hr1 := hp1.1
  subst hr1
  have HS6 := Lib.hid (HS5.out.next hp1)
  clear hp1
  go_wp2
  go_end0
  have hfin := HS0.out.trans HS6.out
  refine Stp.puts ?_
  simpa using hfin
set_option maxHeartbeats 800000 in
theorem exprW7 {R : Nat} {T : World → Prop} {p : Nat → Bool} (hF : Fm R p T) (op num : Nat) (text : List Nat) (kids : List Ex) (place : Nat) (hop : op = 7) (hp : p num = true) (hE : ∀ x ∈ kids, ExprWr R T x) : ExprWr R T (.mk op num text kids place) := by
  intro k t w hW hT hV hlen
  have hV' : ExsC w (· < R) kids k := hV
  obtain ⟨A, cp, rfl⟩ := exsC_slice hV'
  have hsh : showE (.mk op num text kids place) = text ++ atK (showL kids) 0 := by rw [showE_eq]; subst hop; rfl
  rw [hsh] at hlen ⊢
  have q1 : (((op : Nat) : Int) == 1) = false := by rw [hop]; rfl
  have q2 : (((op : Nat) : Int) == 2) = false := by rw [hop]; rfl
  have q3 : (((op : Nat) : Int) == 3) = false := by rw [hop]; rfl
  have q4 : (((op : Nat) : Int) == 4) = false := by rw [hop]; rfl
  have q5 : (((op : Nat) : Int) == 5) = false := by rw [hop]; rfl
  have q6 : (((op : Nat) : Int) == 6) = false := by rw [hop]; rfl
  have q7 : (((op : Nat) : Int) == 7) = true := by rw [hop]; rfl
  have HSh := Lib.hid hsh
  have hlR := hW.lt
  have S0 := Stp.alloc hW (exBox op num text (.slice A kids.length cp) place)
  have HB := Lib.hid (heap_alloc_new w (exBox op num text (.slice A kids.length cp) place))
  have hT1 := hF.kept _ _ hT S0.2.1
  have hV1 := hV'.same (below_same S0.2.1)
  have HTV : Hid (∀ u w', Stp R (w.alloc (exBox op num text (.slice A kids.length cp) place)) u w' → T w' ∧ ExsC w' (· < R) kids (.slice A kids.length cp)) := fun u w' h => ⟨hF.kept _ _ hT1 h.2.1, hV1.same (below_same h.2.1)⟩
  have HS0 := Lib.hid S0
  have hll := hlen
  simp only [List.length_append] at hll
  have HLL := Lib.hid hll
  have K := Lib.hid (put1z R _ text (t) (w.alloc (exBox op num text (.slice A kids.length cp) place)) S0.1 rfl (by simp only [List.length_append] at hll ⊢; omega) (w.heap.size + 1) (by simp))
  clear S0 hT1 hV1 hV hV' hW hT hlen hsh hop hll
  change Calls Tryd.prog 66 #[.pointer (some ⟨R, 0, none⟩), .agg #[.int .i64 op, .int .i64 num, .string (strN text), (.slice A kids.length cp), .int .i64 place]] w _
  unfold exBox at *
  go_enter Tryd.func66, Tryd.ntmps66
  go_wp2_with fail
  generalize w.alloc (.cells #[.int .i64 op, .int .i64 num, .string (strN text), (.slice A kids.length cp), .int .i64 place] 39) = w1 at *
  (with_reducible refine K.out.mono ?_)
  clear K
  rintro e' w2 hp1
  have hr1 := hp1.1
  subst hr1
  have HS2 := Lib.hid ((Stp.start HS0.out.1).next hp1)
  clear hp1
  have b2 := HS2.out.block HB.out (by omega) (by decide)
  have c3 : w2.cell? ⟨w.heap.size, 3, none⟩ = some (.slice A kids.length cp) := by rw [Lib.cell_of_heap b2]; rfl
  have hll := HLL.out
  have K := Lib.hid (exprAtz R T kids hE (.slice A kids.length cp) 0 0 rfl (t ++ text) w2 HS2.out.1 (HTV.out _ _ HS2.out).1 (HTV.out _ _ HS2.out).2 (by simp only [List.length_append] at hll ⊢; omega))
  clear b2 hll
  go_wp2_with fail
  (with_reducible refine K.out.mono ?_)
  clear K
  rintro e' w3 hp1
  have hr1 := hp1.1
  subst hr1
  have HS3 := Lib.hid (HS2.out.next hp1)
  clear hp1
  go_wp2
  go_end0
  have hfin := HS0.out.trans HS3.out
  refine Stp.puts ?_
  simpa using hfin
set_option maxHeartbeats 800000 in
theorem exprW8 {R : Nat} {T : World → Prop} {p : Nat → Bool} (hF : Fm R p T) (op num : Nat) (text : List Nat) (kids : List Ex) (place : Nat) (hop : op = 8) (hp : p num = true) (hE : ∀ x ∈ kids, ExprWr R T x) : ExprWr R T (.mk op num text kids place) := by
  intro k t w hW hT hV hlen
  have hV' : ExsC w (· < R) kids k := hV
  obtain ⟨A, cp, rfl⟩ := exsC_slice hV'
  have hsh : showE (.mk op num text kids place) = opT [103, 101, 116] 1 (showL kids) := by rw [showE_eq]; subst hop; rfl
  rw [hsh] at hlen ⊢
  have q1 : (((op : Nat) : Int) == 1) = false := by rw [hop]; rfl
  have q2 : (((op : Nat) : Int) == 2) = false := by rw [hop]; rfl
  have q3 : (((op : Nat) : Int) == 3) = false := by rw [hop]; rfl
  have q4 : (((op : Nat) : Int) == 4) = false := by rw [hop]; rfl
  have q5 : (((op : Nat) : Int) == 5) = false := by rw [hop]; rfl
  have q6 : (((op : Nat) : Int) == 6) = false := by rw [hop]; rfl
  have q7 : (((op : Nat) : Int) == 7) = false := by rw [hop]; rfl
  have q8 : (((op : Nat) : Int) == 8) = true := by rw [hop]; rfl
  have HSh := Lib.hid hsh
  have hlR := hW.lt
  have S0 := Stp.alloc hW (exBox op num text (.slice A kids.length cp) place)
  have HB := Lib.hid (heap_alloc_new w (exBox op num text (.slice A kids.length cp) place))
  have hT1 := hF.kept _ _ hT S0.2.1
  have hV1 := hV'.same (below_same S0.2.1)
  have HTV : Hid (∀ u w', Stp R (w.alloc (exBox op num text (.slice A kids.length cp) place)) u w' → T w' ∧ ExsC w' (· < R) kids (.slice A kids.length cp)) := fun u w' h => ⟨hF.kept _ _ hT1 h.2.1, hV1.same (below_same h.2.1)⟩
  have HS0 := Lib.hid S0
  have hll := hlen
  simp only [List.length_append] at hll
  have HLL := Lib.hid hll
  have K := Lib.hid (operationz R T hF.kept kids hE (.slice A kids.length cp) ⟨#[103, 101, 116]⟩ [103, 101, 116] (by kernel_rfl) 1 1 rfl (t) (w.alloc (exBox op num text (.slice A kids.length cp) place)) S0.1 hT1 hV1 (by simp only [List.length_append] at hll ⊢; omega))
  clear S0 hT1 hV1 hV hV' hW hT hlen hsh hop hll
  change Calls Tryd.prog 66 #[.pointer (some ⟨R, 0, none⟩), .agg #[.int .i64 op, .int .i64 num, .string (strN text), (.slice A kids.length cp), .int .i64 place]] w _
  unfold exBox at *
  go_enter Tryd.func66, Tryd.ntmps66
  go_wp2_with fail
  generalize w.alloc (.cells #[.int .i64 op, .int .i64 num, .string (strN text), (.slice A kids.length cp), .int .i64 place] 39) = w1 at *
  (with_reducible refine K.out.mono ?_)
  clear K
  rintro e' w2 hp1
  have hr1 := hp1.1
  subst hr1
  have HS2 := Lib.hid ((Stp.start HS0.out.1).next hp1)
  clear hp1
  go_wp2
  go_end0
  have hfin := HS0.out.trans HS2.out
  refine Stp.puts ?_
  simpa using hfin
set_option maxHeartbeats 800000 in
theorem exprW9 {R : Nat} {T : World → Prop} {p : Nat → Bool} (hF : Fm R p T) (op num : Nat) (text : List Nat) (kids : List Ex) (place : Nat) (hop : op = 9) (hp : p num = true) (hE : ∀ x ∈ kids, ExprWr R T x) : ExprWr R T (.mk op num text kids place) := by
  intro k t w hW hT hV hlen
  have hV' : ExsC w (· < R) kids k := hV
  obtain ⟨A, cp, rfl⟩ := exsC_slice hV'
  have hsh : showE (.mk op num text kids place) = opT [104, 97, 115] 1 (showL kids) := by rw [showE_eq]; subst hop; rfl
  rw [hsh] at hlen ⊢
  have q1 : (((op : Nat) : Int) == 1) = false := by rw [hop]; rfl
  have q2 : (((op : Nat) : Int) == 2) = false := by rw [hop]; rfl
  have q3 : (((op : Nat) : Int) == 3) = false := by rw [hop]; rfl
  have q4 : (((op : Nat) : Int) == 4) = false := by rw [hop]; rfl
  have q5 : (((op : Nat) : Int) == 5) = false := by rw [hop]; rfl
  have q6 : (((op : Nat) : Int) == 6) = false := by rw [hop]; rfl
  have q7 : (((op : Nat) : Int) == 7) = false := by rw [hop]; rfl
  have q8 : (((op : Nat) : Int) == 8) = false := by rw [hop]; rfl
  have q9 : (((op : Nat) : Int) == 9) = true := by rw [hop]; rfl
  have HSh := Lib.hid hsh
  have hlR := hW.lt
  have S0 := Stp.alloc hW (exBox op num text (.slice A kids.length cp) place)
  have HB := Lib.hid (heap_alloc_new w (exBox op num text (.slice A kids.length cp) place))
  have hT1 := hF.kept _ _ hT S0.2.1
  have hV1 := hV'.same (below_same S0.2.1)
  have HTV : Hid (∀ u w', Stp R (w.alloc (exBox op num text (.slice A kids.length cp) place)) u w' → T w' ∧ ExsC w' (· < R) kids (.slice A kids.length cp)) := fun u w' h => ⟨hF.kept _ _ hT1 h.2.1, hV1.same (below_same h.2.1)⟩
  have HS0 := Lib.hid S0
  have hll := hlen
  simp only [List.length_append] at hll
  have HLL := Lib.hid hll
  have K := Lib.hid (operationz R T hF.kept kids hE (.slice A kids.length cp) ⟨#[104, 97, 115]⟩ [104, 97, 115] (by kernel_rfl) 1 1 rfl (t) (w.alloc (exBox op num text (.slice A kids.length cp) place)) S0.1 hT1 hV1 (by simp only [List.length_append] at hll ⊢; omega))
  clear S0 hT1 hV1 hV hV' hW hT hlen hsh hop hll
  change Calls Tryd.prog 66 #[.pointer (some ⟨R, 0, none⟩), .agg #[.int .i64 op, .int .i64 num, .string (strN text), (.slice A kids.length cp), .int .i64 place]] w _
  unfold exBox at *
  go_enter Tryd.func66, Tryd.ntmps66
  go_wp2_with fail
  generalize w.alloc (.cells #[.int .i64 op, .int .i64 num, .string (strN text), (.slice A kids.length cp), .int .i64 place] 39) = w1 at *
  (with_reducible refine K.out.mono ?_)
  clear K
  rintro e' w2 hp1
  have hr1 := hp1.1
  subst hr1
  have HS2 := Lib.hid ((Stp.start HS0.out.1).next hp1)
  clear hp1
  go_wp2
  go_end0
  have hfin := HS0.out.trans HS2.out
  refine Stp.puts ?_
  simpa using hfin
set_option maxHeartbeats 800000 in
theorem exprW10 {R : Nat} {T : World → Prop} {p : Nat → Bool} (hF : Fm R p T) (op num : Nat) (text : List Nat) (kids : List Ex) (place : Nat) (hop : op = 10) (hp : p num = true) (hE : ∀ x ∈ kids, ExprWr R T x) : ExprWr R T (.mk op num text kids place) := by
  intro k t w hW hT hV hlen
  have hV' : ExsC w (· < R) kids k := hV
  obtain ⟨A, cp, rfl⟩ := exsC_slice hV'
  have hsh : showE (.mk op num text kids place) = opT [108, 101, 110] 1 (showL kids) := by rw [showE_eq]; subst hop; rfl
  rw [hsh] at hlen ⊢
  have q1 : (((op : Nat) : Int) == 1) = false := by rw [hop]; rfl
  have q2 : (((op : Nat) : Int) == 2) = false := by rw [hop]; rfl
  have q3 : (((op : Nat) : Int) == 3) = false := by rw [hop]; rfl
  have q4 : (((op : Nat) : Int) == 4) = false := by rw [hop]; rfl
  have q5 : (((op : Nat) : Int) == 5) = false := by rw [hop]; rfl
  have q6 : (((op : Nat) : Int) == 6) = false := by rw [hop]; rfl
  have q7 : (((op : Nat) : Int) == 7) = false := by rw [hop]; rfl
  have q8 : (((op : Nat) : Int) == 8) = false := by rw [hop]; rfl
  have q9 : (((op : Nat) : Int) == 9) = false := by rw [hop]; rfl
  have q10 : (((op : Nat) : Int) == 10) = true := by rw [hop]; rfl
  have HSh := Lib.hid hsh
  have hlR := hW.lt
  have S0 := Stp.alloc hW (exBox op num text (.slice A kids.length cp) place)
  have HB := Lib.hid (heap_alloc_new w (exBox op num text (.slice A kids.length cp) place))
  have hT1 := hF.kept _ _ hT S0.2.1
  have hV1 := hV'.same (below_same S0.2.1)
  have HTV : Hid (∀ u w', Stp R (w.alloc (exBox op num text (.slice A kids.length cp) place)) u w' → T w' ∧ ExsC w' (· < R) kids (.slice A kids.length cp)) := fun u w' h => ⟨hF.kept _ _ hT1 h.2.1, hV1.same (below_same h.2.1)⟩
  have HS0 := Lib.hid S0
  have hll := hlen
  simp only [List.length_append] at hll
  have HLL := Lib.hid hll
  have K := Lib.hid (operationz R T hF.kept kids hE (.slice A kids.length cp) ⟨#[108, 101, 110]⟩ [108, 101, 110] (by kernel_rfl) 1 1 rfl (t) (w.alloc (exBox op num text (.slice A kids.length cp) place)) S0.1 hT1 hV1 (by simp only [List.length_append] at hll ⊢; omega))
  clear S0 hT1 hV1 hV hV' hW hT hlen hsh hop hll
  change Calls Tryd.prog 66 #[.pointer (some ⟨R, 0, none⟩), .agg #[.int .i64 op, .int .i64 num, .string (strN text), (.slice A kids.length cp), .int .i64 place]] w _
  unfold exBox at *
  go_enter Tryd.func66, Tryd.ntmps66
  go_wp2_with fail
  generalize w.alloc (.cells #[.int .i64 op, .int .i64 num, .string (strN text), (.slice A kids.length cp), .int .i64 place] 39) = w1 at *
  (with_reducible refine K.out.mono ?_)
  clear K
  rintro e' w2 hp1
  have hr1 := hp1.1
  subst hr1
  have HS2 := Lib.hid ((Stp.start HS0.out.1).next hp1)
  clear hp1
  go_wp2
  go_end0
  have hfin := HS0.out.trans HS2.out
  refine Stp.puts ?_
  simpa using hfin
set_option maxHeartbeats 800000 in
theorem exprW1 {R : Nat} {T : World → Prop} {p : Nat → Bool} (hF : Fm R p T) (op num : Nat) (text : List Nat) (kids : List Ex) (place : Nat) (hop : op = 1) (hp : p num = true) (hE : ∀ x ∈ kids, ExprWr R T x) : ExprWr R T (.mk op num text kids place) := by
  intro k t w hW hT hV hlen
  have hV' : ExsC w (· < R) kids k := hV
  obtain ⟨A, cp, rfl⟩ := exsC_slice hV'
  have hsh : showE (.mk op num text kids place) = decN num := by rw [showE_eq]; subst hop; rfl
  rw [hsh] at hlen ⊢
  have q1 : (((op : Nat) : Int) == 1) = true := by rw [hop]; rfl
  have HSh := Lib.hid hsh
  have hlR := hW.lt
  have S0 := Stp.alloc hW (exBox op num text (.slice A kids.length cp) place)
  have HB := Lib.hid (heap_alloc_new w (exBox op num text (.slice A kids.length cp) place))
  have hT1 := hF.kept _ _ hT S0.2.1
  have hV1 := hV'.same (below_same S0.2.1)
  have HTV : Hid (∀ u w', Stp R (w.alloc (exBox op num text (.slice A kids.length cp) place)) u w' → T w' ∧ ExsC w' (· < R) kids (.slice A kids.length cp)) := fun u w' h => ⟨hF.kept _ _ hT1 h.2.1, hV1.same (below_same h.2.1)⟩
  have HS0 := Lib.hid S0
  have HL := Lib.hid hlen
  have K := Lib.hid (hF.call num (w.alloc (exBox op num text (.slice A kids.length cp) place)) hp hT1)
  clear S0 hT1 hV1 hV hV' hW hT hlen hsh hop
  change Calls Tryd.prog 66 #[.pointer (some ⟨R, 0, none⟩), .agg #[.int .i64 op, .int .i64 num, .string (strN text), (.slice A kids.length cp), .int .i64 place]] w _
  unfold exBox at *
  go_enter Tryd.func66, Tryd.ntmps66
  go_wp2_with fail
  generalize w.alloc (.cells #[.int .i64 op, .int .i64 num, .string (strN text), (.slice A kids.length cp), .int .i64 place] 39) = w1 at *
  (with_reducible refine K.out.mono ?_)
  clear K
  rintro e' w2 ⟨rfl, hb⟩
  have HS2 := Lib.hid (Wr.below HS0.out.1 hb)
  have K := Lib.hid (put1z R _ (decN num) t w2 HS2.out.1 rfl HL.out w2.heap.size rfl)
  clear hb
  go_wp2_with fail
  (with_reducible refine K.out.mono ?_)
  clear K
  rintro e' w3 hp1
  have hr1 := hp1.1
  subst hr1
  have HS3 := Lib.hid (HS2.out.next hp1)
  clear hp1
  go_wp2
  go_end0
  have hfin := HS0.out.trans HS3.out
  exact hfin.puts
set_option maxHeartbeats 800000 in
theorem exprW2t {R : Nat} {T : World → Prop} {p : Nat → Bool} (hF : Fm R p T) (op num : Nat) (text : List Nat) (kids : List Ex) (place : Nat) (hop : op = 2) (hnum : num = 1) (hp : p num = true) (hE : ∀ x ∈ kids, ExprWr R T x) : ExprWr R T (.mk op num text kids place) := by
  intro k t w hW hT hV hlen
  have hV' : ExsC w (· < R) kids k := hV
  obtain ⟨A, cp, rfl⟩ := exsC_slice hV'
  have hsh : showE (.mk op num text kids place) = [116, 114, 117, 101] := by rw [showE_eq]; subst hop; show boolT num = _; unfold boolT; rw [if_pos hnum]
  rw [hsh] at hlen ⊢
  have q1 : (((op : Nat) : Int) == 1) = false := by rw [hop]; rfl
  have q2 : (((op : Nat) : Int) == 2) = true := by rw [hop]; rfl
  have HSh := Lib.hid hsh
  have hlR := hW.lt
  have S0 := Stp.alloc hW (exBox op num text (.slice A kids.length cp) place)
  have HB := Lib.hid (heap_alloc_new w (exBox op num text (.slice A kids.length cp) place))
  have hT1 := hF.kept _ _ hT S0.2.1
  have hV1 := hV'.same (below_same S0.2.1)
  have HTV : Hid (∀ u w', Stp R (w.alloc (exBox op num text (.slice A kids.length cp) place)) u w' → T w' ∧ ExsC w' (· < R) kids (.slice A kids.length cp)) := fun u w' h => ⟨hF.kept _ _ hT1 h.2.1, hV1.same (below_same h.2.1)⟩
  have HS0 := Lib.hid S0
  have HL := Lib.hid hlen
  have qn : (((num : Nat) : Int) == 1) = true := by rw [hnum]; rfl
  have K := Lib.hid (formatBool true (w.alloc (exBox op num text (.slice A kids.length cp) place)))
  clear S0 hT1 hV1 hV hV' hW hT hlen hsh hop hnum
  change Calls Tryd.prog 66 #[.pointer (some ⟨R, 0, none⟩), .agg #[.int .i64 op, .int .i64 num, .string (strN text), (.slice A kids.length cp), .int .i64 place]] w _
  unfold exBox at *
  go_enter Tryd.func66, Tryd.ntmps66
  go_wp2_with fail
  generalize w.alloc (.cells #[.int .i64 op, .int .i64 num, .string (strN text), (.slice A kids.length cp), .int .i64 place] 39) = w1 at *
  (with_reducible refine K.out.mono ?_)
  clear K
  rintro e' w2 ⟨rfl, rfl⟩
  have K := Lib.hid (put1z R _ [116, 114, 117, 101] t w1 HS0.out.1 rfl HL.out w1.heap.size rfl)
  go_wp2_with fail
  (with_reducible refine K.out.mono ?_)
  clear K
  rintro e' w3 hp1
  have hr1 := hp1.1
  subst hr1
  have HS3 := Lib.hid ((Stp.start HS0.out.1).next hp1)
  clear hp1
  go_wp2
  go_end0
  have hfin := HS0.out.trans HS3.out
  exact hfin.puts
set_option maxHeartbeats 800000 in
theorem exprW2f {R : Nat} {T : World → Prop} {p : Nat → Bool} (hF : Fm R p T) (op num : Nat) (text : List Nat) (kids : List Ex) (place : Nat) (hop : op = 2) (hnum : num ≠ 1) (hp : p num = true) (hE : ∀ x ∈ kids, ExprWr R T x) : ExprWr R T (.mk op num text kids place) := by
  intro k t w hW hT hV hlen
  have hV' : ExsC w (· < R) kids k := hV
  obtain ⟨A, cp, rfl⟩ := exsC_slice hV'
  have hsh : showE (.mk op num text kids place) = [102, 97, 108, 115, 101] := by rw [showE_eq]; subst hop; show boolT num = _; unfold boolT; rw [if_neg hnum]
  rw [hsh] at hlen ⊢
  have q1 : (((op : Nat) : Int) == 1) = false := by rw [hop]; rfl
  have q2 : (((op : Nat) : Int) == 2) = true := by rw [hop]; rfl
  have HSh := Lib.hid hsh
  have hlR := hW.lt
  have S0 := Stp.alloc hW (exBox op num text (.slice A kids.length cp) place)
  have HB := Lib.hid (heap_alloc_new w (exBox op num text (.slice A kids.length cp) place))
  have hT1 := hF.kept _ _ hT S0.2.1
  have hV1 := hV'.same (below_same S0.2.1)
  have HTV : Hid (∀ u w', Stp R (w.alloc (exBox op num text (.slice A kids.length cp) place)) u w' → T w' ∧ ExsC w' (· < R) kids (.slice A kids.length cp)) := fun u w' h => ⟨hF.kept _ _ hT1 h.2.1, hV1.same (below_same h.2.1)⟩
  have HS0 := Lib.hid S0
  have HL := Lib.hid hlen
  have qn : (((num : Nat) : Int) == 1) = false := by rw [beq_eq_false_iff_ne]; omega
  have K := Lib.hid (formatBool false (w.alloc (exBox op num text (.slice A kids.length cp) place)))
  clear S0 hT1 hV1 hV hV' hW hT hlen hsh hop hnum
  change Calls Tryd.prog 66 #[.pointer (some ⟨R, 0, none⟩), .agg #[.int .i64 op, .int .i64 num, .string (strN text), (.slice A kids.length cp), .int .i64 place]] w _
  unfold exBox at *
  go_enter Tryd.func66, Tryd.ntmps66
  go_wp2_with fail
  generalize w.alloc (.cells #[.int .i64 op, .int .i64 num, .string (strN text), (.slice A kids.length cp), .int .i64 place] 39) = w1 at *
  (with_reducible refine K.out.mono ?_)
  clear K
  rintro e' w2 ⟨rfl, rfl⟩
  have K := Lib.hid (put1z R _ [102, 97, 108, 115, 101] t w1 HS0.out.1 rfl HL.out w1.heap.size rfl)
  go_wp2_with fail
  (with_reducible refine K.out.mono ?_)
  clear K
  rintro e' w3 hp1
  have hr1 := hp1.1
  subst hr1
  have HS3 := Lib.hid ((Stp.start HS0.out.1).next hp1)
  clear hp1
  go_wp2
  go_end0
  have hfin := HS0.out.trans HS3.out
  exact hfin.puts
set_option maxHeartbeats 800000 in
theorem exprW11 {R : Nat} {T : World → Prop} {p : Nat → Bool} (hF : Fm R p T) (op num : Nat) (text : List Nat) (kids : List Ex) (place : Nat) (hop : op = 0 ∨ 10 < op) (hp : p num = true) (hE : ∀ x ∈ kids, ExprWr R T x) : ExprWr R T (.mk op num text kids place) := by
  intro k t w hW hT hV hlen
  have hV' : ExsC w (· < R) kids k := hV
  obtain ⟨A, cp, rfl⟩ := exsC_slice hV'
  have hsh : showE (.mk op num text kids place) = [] := by rw [showE_eq]; show showOp op num text (showL kids) = _; unfold showOp; rw [if_neg (by omega), if_neg (by omega), if_neg (by omega), if_neg (by omega), if_neg (by omega), if_neg (by omega), if_neg (by omega), if_neg (by omega), if_neg (by omega), if_neg (by omega)]
  rw [hsh] at hlen ⊢
  have HSh := Lib.hid hsh
  have hlR := hW.lt
  have S0 := Stp.alloc hW (exBox op num text (.slice A kids.length cp) place)
  have HB := Lib.hid (heap_alloc_new w (exBox op num text (.slice A kids.length cp) place))
  have hT1 := hF.kept _ _ hT S0.2.1
  have hV1 := hV'.same (below_same S0.2.1)
  have HTV : Hid (∀ u w', Stp R (w.alloc (exBox op num text (.slice A kids.length cp) place)) u w' → T w' ∧ ExsC w' (· < R) kids (.slice A kids.length cp)) := fun u w' h => ⟨hF.kept _ _ hT1 h.2.1, hV1.same (below_same h.2.1)⟩
  have HS0 := Lib.hid S0
  have q1 : (((op : Nat) : Int) == 1) = false := by rw [beq_eq_false_iff_ne]; omega
  have q2 : (((op : Nat) : Int) == 2) = false := by rw [beq_eq_false_iff_ne]; omega
  have q3 : (((op : Nat) : Int) == 3) = false := by rw [beq_eq_false_iff_ne]; omega
  have q4 : (((op : Nat) : Int) == 4) = false := by rw [beq_eq_false_iff_ne]; omega
  have q5 : (((op : Nat) : Int) == 5) = false := by rw [beq_eq_false_iff_ne]; omega
  have q6 : (((op : Nat) : Int) == 6) = false := by rw [beq_eq_false_iff_ne]; omega
  have q7 : (((op : Nat) : Int) == 7) = false := by rw [beq_eq_false_iff_ne]; omega
  have q8 : (((op : Nat) : Int) == 8) = false := by rw [beq_eq_false_iff_ne]; omega
  have q9 : (((op : Nat) : Int) == 9) = false := by rw [beq_eq_false_iff_ne]; omega
  have q10 : (((op : Nat) : Int) == 10) = false := by rw [beq_eq_false_iff_ne]; omega
  clear S0 hT1 hV1 hV hV' hW hT hlen hsh hop
  change Calls Tryd.prog 66 #[.pointer (some ⟨R, 0, none⟩), .agg #[.int .i64 op, .int .i64 num, .string (strN text), (.slice A kids.length cp), .int .i64 place]] w _
  unfold exBox at *
  go_enter Tryd.func66, Tryd.ntmps66
  go_wp2
  go_end0
  have hfin := HS0.out
  exact Stp.puts (by simpa using hfin)
/-- every expression is written as said -/
theorem expr_wr {R : Nat} {T : World → Prop} {p : Nat → Bool} (hF : Fm R p T) : ∀ e : Ex, numsE p e = true → ExprWr R T e
  | .mk op num text kids place, h => by
    have h' := h
    simp only [numsE, Bool.and_eq_true] at h'
    have hE : ∀ x ∈ kids, ExprWr R T x := fun x hx => expr_wr hF x (numsL_mem h'.2 x hx)
    by_cases h0 : op = 0 ∨ 10 < op
    · exact exprW11 hF op num text kids place h0 h'.1 hE
    by_cases h1 : op = 1
    · exact exprW1 hF op num text kids place h1 h'.1 hE
    by_cases h2 : op = 2
    · by_cases hn : num = 1
      · exact exprW2t hF op num text kids place h2 hn h'.1 hE
      · exact exprW2f hF op num text kids place h2 hn h'.1 hE
    by_cases h3 : op = 3
    · exact exprW3 hF op num text kids place h3 h'.1 hE
    by_cases h4 : op = 4
    · exact exprW4 hF op num text kids place h4 h'.1 hE
    by_cases h5 : op = 5
    · exact exprW5 hF op num text kids place h5 h'.1 hE
    by_cases h6 : op = 6
    · exact exprW6 hF op num text kids place h6 h'.1 hE
    by_cases h7 : op = 7
    · exact exprW7 hF op num text kids place h7 h'.1 hE
    by_cases h8 : op = 8
    · exact exprW8 hF op num text kids place h8 h'.1 hE
    by_cases h9 : op = 9
    · exact exprW9 hF op num text kids place h9 h'.1 hE
    exact exprW10 hF op num text kids place (by omega) h'.1 hE
termination_by e => SizeOf.sizeOf e
decreasing_by
  have := List.sizeOf_lt_of_mem hx
  simp
  omega
end Go.Proofs.YtoicncfpoklanaaDoor
