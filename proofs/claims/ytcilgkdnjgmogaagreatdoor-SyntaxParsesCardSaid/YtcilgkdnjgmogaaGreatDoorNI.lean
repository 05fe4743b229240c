/- What the program's writer does with an expression. -/
import Derived.Test.YtcilgkdnjgmogaaGreatDoorNH
namespace Go.Proofs.YtcilgkdnjgmogaaGreatDoor
section
open Go.RowKit
set_option maxRecDepth 100000
set_option linter.unusedSimpArgs false
set_option linter.unusedVariables false
theorem Wr.below {R : Nat} {t : List Nat} {w w' : World} (h : Wr R t w) (hb : Below w.heap.size w w') : Stp R w t w' := by
 have hR := h.lt
 have hk : Lib.OthersKept 5 (some R) w w' := fun k o ho _ _ => by rw [hb.block k (Array.getElem?_eq_some_iff.1 ho).1]; exact ho
 refine ⟨?_, hb.mono (Nat.le_of_lt hR), hk⟩
 have key : ∀ q, Lib.BuilderAtF 128 5 R R q (Lib.byteCells (u8s t)) w → Lib.BuilderAtF 128 5 R R q (Lib.byteCells (u8s t)) w' := fun q ⟨h1, v, h2, h3, h4⟩ =>
  ⟨h1, v, by rw [hb.block R hR]; exact h2, ⟨h3.1, by
   rcases h3.2 with hn | ⟨g, cap, cur, fz, e, g1, g2, g3⟩
   ·exact .inl hn
   ·exact .inr ⟨g, cap, cur, fz, e, g1, by rw [hb.block g (Array.getElem?_eq_some_iff.1 g2).1]; exact g2, g3⟩⟩, h4⟩
 rcases h with h | h
 ·exact .inl (key _ h)
 ·exact .inr (key _ h)
theorem exprAtz (R : Nat) (T : World → Prop) (l : List Ex) (hE : ∀ e ∈ l, ExprWr R T e) (V : Value) (i : Nat) (z : Int) (hz : z = i) (t : List Nat) (w : World) (hW : Wr R t w) (hT : T w) (hV : ExsC w (· < R) l V) (hlen : (t ++ atK (showL l) i).length ≤ 140737488355328) :
  Calls Tryz.prog 179 #[.pointer (some ⟨R, 0, none⟩), V, .int .i64 z] w (Puts R t (atK (showL l) i) w) := by
 subst hz
 exact exprAt R T l hE V i t w hW hT hV hlen
theorem operationz (R : Nat) (T : World → Prop) (hT0 : ∀ w w', T w → Below R w w' → T w') (l : List Ex) (hE : ∀ e ∈ l, ExprWr R T e) (V : Value) (by' : ByteArray) (word : List Nat) (hb : by' = strN word) (n : Nat) (z : Int) (hz : z = n) (t : List Nat) (w : World) (hW : Wr R t w) (hT : T w) (hV : ExsC w (· < R) l V) (hlen : (t ++ opT word n (showL l)).length ≤ 140737488355328) :
  Calls Tryz.prog 180 #[.pointer (some ⟨R, 0, none⟩), .string by', .int .i64 z, V] w (Puts R t (opT word n (showL l)) w) := by
 subst hz
 exact operation R T hT0 l hE V by' word hb n t w hW hT hV hlen
def exBox (op num : Nat) (text : List Nat) (k : Value) (place : Nat) : Obj := .cells #[.int .i64 op, .int .i64 num, .string (strN text), k, .int .i64 place] 202 (0, 0)
theorem formatBool (b : Bool) (w : World) : Calls Tryz.prog 253 #[.bool b] w fun e w' => e = .returned (.string (strN (bif b then [116, 114, 117, 101] else [102, 97, 108, 115, 101]))) ∧ w = w' := by
 have e1 : strN [116, 114, 117, 101] = ⟨#[116, 114, 117, 101]⟩ := by kernel_rfl
 have e2 : strN [102, 97, 108, 115, 101] = ⟨#[102, 97, 108, 115, 101]⟩ := by kernel_rfl
 cases b
 ·rw [cond_false, e2]
  clear e1 e2
  go_enter Tryz.func253, Tryz.ntmps253
  go_wp2
  go_ret
  exact ⟨rfl, rfl⟩
 ·rw [cond_true, e1]
  clear e1 e2
  go_enter Tryz.func253, Tryz.ntmps253
  go_wp2
  go_ret
  exact ⟨rfl, rfl⟩
set_option maxHeartbeats 800000 in
theorem exprW3 {R : Nat} {T : World → Prop} {p : Nat → Bool} (hF : Fm R p T) (op num : Nat) (text : List Nat) (kids : List Ex) (place : Nat) (hop : op = 3) (hp : p num = true) (hE : ∀ x ∈ kids, ExprWr R T x) : ExprWr R T (.mk op num text kids place) := by
 intro k t w hW hT hV hlen
 have hV' : ExsC w (· < R) kids k := hV
 obtain ⟨A, cp, rfl⟩ := exsC_slice hV'
 have hsh : showE (.mk op num text kids place) = ([34] ++ text ++ [34]) := by rw [showE_eq]; subst hop; rfl
 rw [hsh] at hlen ⊢
 have q1 : (((op : Nat) : Int) == 1) = false := by rw [hop]; rfl
 have q2 : (((op : Nat) : Int) == 2) = false := by rw [hop]; rfl
 have q3 : (((op : Nat) : Int) == 3) = true := by rw [hop]; rfl
 have HSh := Lib.hid hsh
 have hlR := hW.lt
 have S0 := Stp.alloc hW (exBox op num text (.slice A kids.length cp) place)
 have HB := Lib.hid (heap_alloc_new w (exBox op num text (.slice A kids.length cp) place))
 have hT1 := hF.kept _ _ hT S0.2.1
 have hV1 := hV'.same (below_same S0.2.1)
 have HTV : Hid (∀ u w', Stp R (w.alloc (exBox op num text (.slice A kids.length cp) place)) u w' → T w' ∧ ExsC w' (· < R) kids (.slice A kids.length cp)) := fun u w' h => ⟨hF.kept _ _ hT1 h.2.1, hV1.same (below_same h.2.1)⟩
 have HS0 := Lib.hid S0
 have hll := hlen
 simp only [List.length_append] at hll
 have HLL := Lib.hid hll
 have K := Lib.hid (put3z R ⟨#[34]⟩ _ ⟨#[34]⟩ [34] text [34] (t) (w.alloc (exBox op num text (.slice A kids.length cp) place)) S0.1 (by kernel_rfl) rfl (by kernel_rfl) (by simp only [List.length_append] at hll ⊢; omega) (w.heap.size + 1) (by simp))
 clear S0 hT1 hV1 hV hV' hW hT hlen hsh hop hll
 change Calls Tryz.prog 215 #[.pointer (some ⟨R, 0, none⟩), .agg #[.int .i64 op, .int .i64 num, .string (strN text), (.slice A kids.length cp), .int .i64 place]] w _
 unfold exBox at *
 go_enter Tryz.func215, Tryz.ntmps215
 go_wp2_with fail
 generalize w.alloc (.cells #[.int .i64 op, .int .i64 num, .string (strN text), (.slice A kids.length cp), .int .i64 place] 202) = w1 at *
 (with_reducible refine K.out.mono ?_)
 clear K
 rintro e' w2 hp1
 have hr1 := hp1.1
 subst hr1
 have HS2 := Lib.hid ((Stp.start HS0.out.1).next hp1)
 clear hp1
 go_wp2
 go_end0
 have hfin := HS0.out.trans HS2.out
 refine Stp.puts ?_
 simpa using hfin
set_option maxHeartbeats 800000 in
theorem exprW4 {R : Nat} {T : World → Prop} {p : Nat → Bool} (hF : Fm R p T) (op num : Nat) (text : List Nat) (kids : List Ex) (place : Nat) (hop : op = 4) (hp : p num = true) (hE : ∀ x ∈ kids, ExprWr R T x) : ExprWr R T (.mk op num text kids place) := by
 intro k t w hW hT hV hlen
 have hV' : ExsC w (· < R) kids k := hV
 obtain ⟨A, cp, rfl⟩ := exsC_slice hV'
 have hsh : showE (.mk op num text kids place) = text := by rw [showE_eq]; subst hop; rfl
 rw [hsh] at hlen ⊢
 have q1 : (((op : Nat) : Int) == 1) = false := by rw [hop]; rfl
 have q2 : (((op : Nat) : Int) == 2) = false := by rw [hop]; rfl
 have q3 : (((op : Nat) : Int) == 3) = false := by rw [hop]; rfl
 have q4 : (((op : Nat) : Int) == 4) = true := by rw [hop]; rfl
 have HSh := Lib.hid hsh
 have hlR := hW.lt
 have S0 := Stp.alloc hW (exBox op num text (.slice A kids.length cp) place)
 have HB := Lib.hid (heap_alloc_new w (exBox op num text (.slice A kids.length cp) place))
 have hT1 := hF.kept _ _ hT S0.2.1
 have hV1 := hV'.same (below_same S0.2.1)
 have HTV : Hid (∀ u w', Stp R (w.alloc (exBox op num text (.slice A kids.length cp) place)) u w' → T w' ∧ ExsC w' (· < R) kids (.slice A kids.length cp)) := fun u w' h => ⟨hF.kept _ _ hT1 h.2.1, hV1.same (below_same h.2.1)⟩
 have HS0 := Lib.hid S0
 have hll := hlen
 simp only [List.length_append] at hll
 have HLL := Lib.hid hll
 have K := Lib.hid (put1z R _ text (t) (w.alloc (exBox op num text (.slice A kids.length cp) place)) S0.1 rfl (by simp only [List.length_append] at hll ⊢; omega) (w.heap.size + 1) (by simp))
 clear S0 hT1 hV1 hV hV' hW hT hlen hsh hop hll
 change Calls Tryz.prog 215 #[.pointer (some ⟨R, 0, none⟩), .agg #[.int .i64 op, .int .i64 num, .string (strN text), (.slice A kids.length cp), .int .i64 place]] w _
 unfold exBox at *
 go_enter Tryz.func215, Tryz.ntmps215
 go_wp2_with fail
 generalize w.alloc (.cells #[.int .i64 op, .int .i64 num, .string (strN text), (.slice A kids.length cp), .int .i64 place] 202) = w1 at *
 (with_reducible refine K.out.mono ?_)
 clear K
 rintro e' w2 hp1
 have hr1 := hp1.1
 subst hr1
 have HS2 := Lib.hid ((Stp.start HS0.out.1).next hp1)
 clear hp1
 go_wp2
 go_end0
 have hfin := HS0.out.trans HS2.out
 refine Stp.puts ?_
 simpa using hfin
set_option maxHeartbeats 800000 in
theorem exprW5 {R : Nat} {T : World → Prop} {p : Nat → Bool} (hF : Fm R p T) (op num : Nat) (text : List Nat) (kids : List Ex) (place : Nat) (hop : op = 5) (hp : p num = true) (hE : ∀ x ∈ kids, ExprWr R T x) : ExprWr R T (.mk op num text kids place) := by
 intro k t w hW hT hV hlen
 have hV' : ExsC w (· < R) kids k := hV
 obtain ⟨A, cp, rfl⟩ := exsC_slice hV'
 have hsh : showE (.mk op num text kids place) = opT text kids.length (showL kids) := by rw [showE_eq]; subst hop; show opT text (showL kids).length (showL kids) = _; rw [showL_length]
 rw [hsh] at hlen ⊢
 have q1 : (((op : Nat) : Int) == 1) = false := by rw [hop]; rfl
 have q2 : (((op : Nat) : Int) == 2) = false := by rw [hop]; rfl
 have q3 : (((op : Nat) : Int) == 3) = false := by rw [hop]; rfl
 have q4 : (((op : Nat) : Int) == 4) = false := by rw [hop]; rfl
 have q5 : (((op : Nat) : Int) == 5) = true := by rw [hop]; rfl
 have HSh := Lib.hid hsh
 have hlR := hW.lt
 have S0 := Stp.alloc hW (exBox op num text (.slice A kids.length cp) place)
 have HB := Lib.hid (heap_alloc_new w (exBox op num text (.slice A kids.length cp) place))
 have hT1 := hF.kept _ _ hT S0.2.1
 have hV1 := hV'.same (below_same S0.2.1)
 have HTV : Hid (∀ u w', Stp R (w.alloc (exBox op num text (.slice A kids.length cp) place)) u w' → T w' ∧ ExsC w' (· < R) kids (.slice A kids.length cp)) := fun u w' h => ⟨hF.kept _ _ hT1 h.2.1, hV1.same (below_same h.2.1)⟩
 have HS0 := Lib.hid S0
 have hll := hlen
 simp only [List.length_append] at hll
 have HLL := Lib.hid hll
 have K := Lib.hid (operationz R T hF.kept kids hE (.slice A kids.length cp) _ text rfl kids.length _ rfl (t) (w.alloc (exBox op num text (.slice A kids.length cp) place)) S0.1 hT1 hV1 (by simp only [List.length_append] at hll ⊢; omega))
 clear S0 hT1 hV1 hV hV' hW hT hlen hsh hop hll
 change Calls Tryz.prog 215 #[.pointer (some ⟨R, 0, none⟩), .agg #[.int .i64 op, .int .i64 num, .string (strN text), (.slice A kids.length cp), .int .i64 place]] w _
 unfold exBox at *
 go_enter Tryz.func215, Tryz.ntmps215
 go_wp2_with fail
 generalize w.alloc (.cells #[.int .i64 op, .int .i64 num, .string (strN text), (.slice A kids.length cp), .int .i64 place] 202) = w1 at *
 (with_reducible refine K.out.mono ?_)
 clear K
 rintro e' w2 hp1
 have hr1 := hp1.1
 subst hr1
 have HS2 := Lib.hid ((Stp.start HS0.out.1).next hp1)
 clear hp1
 go_wp2
 go_end0
 have hfin := HS0.out.trans HS2.out
 refine Stp.puts ?_
 simpa using hfin
set_option maxHeartbeats 800000 in
theorem exprW6 {R : Nat} {T : World → Prop} {p : Nat → Bool} (hF : Fm R p T) (op num : Nat) (text : List Nat) (kids : List Ex) (place : Nat) (hop : op = 6) (hp : p num = true) (hE : ∀ x ∈ kids, ExprWr R T x) : ExprWr R T (.mk op num text kids place) := by
 intro k t w hW hT hV hlen
 have hV' : ExsC w (· < R) kids k := hV
 obtain ⟨A, cp, rfl⟩ := exsC_slice hV'
 have hsh : showE (.mk op num text kids place) = [40] ++ atK (showL kids) 0 ++ ([32] ++ text ++ [32]) ++ atK (showL kids) 1 ++ [41] := by rw [showE_eq]; subst hop; rfl
 rw [hsh] at hlen ⊢
 have q1 : (((op : Nat) : Int) == 1) = false := by rw [hop]; rfl
 have q2 : (((op : Nat) : Int) == 2) = false := by rw [hop]; rfl
 have q3 : (((op : Nat) : Int) == 3) = false := by rw [hop]; rfl
 have q4 : (((op : Nat) : Int) == 4) = false := by rw [hop]; rfl
 have q5 : (((op : Nat) : Int) == 5) = false := by rw [hop]; rfl
 have q6 : (((op : Nat) : Int) == 6) = true := by rw [hop]; rfl
 have HSh := Lib.hid hsh
 have hlR := hW.lt
 have S0 := Stp.alloc hW (exBox op num text (.slice A kids.length cp) place)
 have HB := Lib.hid (heap_alloc_new w (exBox op num text (.slice A kids.length cp) place))
 have hT1 := hF.kept _ _ hT S0.2.1
 have hV1 := hV'.same (below_same S0.2.1)
 have HTV : Hid (∀ u w', Stp R (w.alloc (exBox op num text (.slice A kids.length cp) place)) u w' → T w' ∧ ExsC w' (· < R) kids (.slice A kids.length cp)) := fun u w' h => ⟨hF.kept _ _ hT1 h.2.1, hV1.same (below_same h.2.1)⟩
 have HS0 := Lib.hid S0
 have hll := hlen
 simp only [List.length_append] at hll
 have HLL := Lib.hid hll
 have K := Lib.hid (put1z R ⟨#[40]⟩ [40] (t) (w.alloc (exBox op num text (.slice A kids.length cp) place)) S0.1 (by kernel_rfl) (by simp only [List.length_append] at hll ⊢; omega) (w.heap.size + 1) (by simp))
 clear S0 hT1 hV1 hV hV' hW hT hlen hsh hop hll
 change Calls Tryz.prog 215 #[.pointer (some ⟨R, 0, none⟩), .agg #[.int .i64 op, .int .i64 num, .string (strN text), (.slice A kids.length cp), .int .i64 place]] w _
 unfold exBox at *
 go_enter Tryz.func215, Tryz.ntmps215
 go_wp2_with fail
 generalize w.alloc (.cells #[.int .i64 op, .int .i64 num, .string (strN text), (.slice A kids.length cp), .int .i64 place] 202) = w1 at *
 (with_reducible refine K.out.mono ?_)
 clear K
 rintro e' w2 hp1
 have hr1 := hp1.1
 subst hr1
 have HS2 := Lib.hid ((Stp.start HS0.out.1).next hp1)
 clear hp1
 have b2 := HS2.out.block HB.out (by omega) (by decide)
 have c3 : w2.cell? ⟨w.heap.size, 3, none⟩ = some (.slice A kids.length cp) := by rw [Lib.cell_of_heap b2]; rfl
 have hll := HLL.out
 have K := Lib.hid (exprAtz R T kids hE (.slice A kids.length cp) 0 0 rfl (t ++ [40]) w2 HS2.out.1 (HTV.out _ _ HS2.out).1 (HTV.out _ _ HS2.out).2 (by simp only [List.length_append] at hll ⊢; omega))
 clear b2 hll
 go_wp2_with fail
 (with_reducible refine K.out.mono ?_)
 clear K
 rintro e' w3 hp1
 have hr1 := hp1.1
 subst hr1
 have HS3 := Lib.hid (HS2.out.next hp1)
 clear hp1
 have b3 := HS3.out.block HB.out (by omega) (by decide)
 have c2 : w3.cell? ⟨w.heap.size, 2, none⟩ = some (.string (strN text)) := by rw [Lib.cell_of_heap b3]; rfl
 have hll := HLL.out
 have K := Lib.hid (put3z R ⟨#[32]⟩ _ ⟨#[32]⟩ [32] text [32] (t ++ [40] ++ atK (showL kids) 0) w3 HS3.out.1 (by kernel_rfl) rfl (by kernel_rfl) (by simp only [List.length_append] at hll ⊢; omega) w3.heap.size rfl)
 clear b3 hll
 go_wp2_with fail
 (with_reducible refine K.out.mono ?_)
 clear K
 rintro e' w4 hp1
 have hr1 := hp1.1
 subst hr1
 have HS4 := Lib.hid (HS3.out.next hp1)
 clear hp1
 have b4 := HS4.out.block HB.out (by omega) (by decide)
 have c3 : w4.cell? ⟨w.heap.size, 3, none⟩ = some (.slice A kids.length cp) := by rw [Lib.cell_of_heap b4]; rfl
 have hll := HLL.out
 have K := Lib.hid (exprAtz R T kids hE (.slice A kids.length cp) 1 1 rfl (t ++ [40] ++ atK (showL kids) 0 ++ ([32] ++ text ++ [32])) w4 HS4.out.1 (HTV.out _ _ HS4.out).1 (HTV.out _ _ HS4.out).2 (by simp only [List.length_append] at hll ⊢; omega))
 clear b4 hll
 go_wp2_with fail
 (with_reducible refine K.out.mono ?_)
 clear K
 rintro e' w5 hp1
 have hr1 := hp1.1
 subst hr1
 have HS5 := Lib.hid (HS4.out.next hp1)
 clear hp1
 have b5 := HS5.out.block HB.out (by omega) (by decide)
 have hll := HLL.out
 have K := Lib.hid (put1z R ⟨#[41]⟩ [41] (t ++ [40] ++ atK (showL kids) 0 ++ ([32] ++ text ++ [32]) ++ atK (showL kids) 1) w5 HS5.out.1 (by kernel_rfl) (by simp only [List.length_append] at hll ⊢; omega) w5.heap.size rfl)
 clear b5 hll
 go_wp2_with fail
 (with_reducible refine K.out.mono ?_)
 clear K
 rintro e' w6 hp1
 have hr1 := hp1.1
 subst hr1
 have HS6 := Lib.hid (HS5.out.next hp1)
 clear hp1
 go_wp2
 go_end0
 have hfin := HS0.out.trans HS6.out
 refine Stp.puts ?_
 simpa using hfin
set_option maxHeartbeats 800000 in
theorem exprW7 {R : Nat} {T : World → Prop} {p : Nat → Bool} (hF : Fm R p T) (op num : Nat) (text : List Nat) (kids : List Ex) (place : Nat) (hop : op = 7) (hp : p num = true) (hE : ∀ x ∈ kids, ExprWr R T x) : ExprWr R T (.mk op num text kids place) := by
 intro k t w hW hT hV hlen
 have hV' : ExsC w (· < R) kids k := hV
 obtain ⟨A, cp, rfl⟩ := exsC_slice hV'
 have hsh : showE (.mk op num text kids place) = text ++ atK (showL kids) 0 := by rw [showE_eq]; subst hop; rfl
 rw [hsh] at hlen ⊢
 have q1 : (((op : Nat) : Int) == 1) = false := by rw [hop]; rfl
 have q2 : (((op : Nat) : Int) == 2) = false := by rw [hop]; rfl
 have q3 : (((op : Nat) : Int) == 3) = false := by rw [hop]; rfl
 have q4 : (((op : Nat) : Int) == 4) = false := by rw [hop]; rfl
 have q5 : (((op : Nat) : Int) == 5) = false := by rw [hop]; rfl
 have q6 : (((op : Nat) : Int) == 6) = false := by rw [hop]; rfl
 have q7 : (((op : Nat) : Int) == 7) = true := by rw [hop]; rfl
 have HSh := Lib.hid hsh
 have hlR := hW.lt
 have S0 := Stp.alloc hW (exBox op num text (.slice A kids.length cp) place)
 have HB := Lib.hid (heap_alloc_new w (exBox op num text (.slice A kids.length cp) place))
 have hT1 := hF.kept _ _ hT S0.2.1
 have hV1 := hV'.same (below_same S0.2.1)
 have HTV : Hid (∀ u w', Stp R (w.alloc (exBox op num text (.slice A kids.length cp) place)) u w' → T w' ∧ ExsC w' (· < R) kids (.slice A kids.length cp)) := fun u w' h => ⟨hF.kept _ _ hT1 h.2.1, hV1.same (below_same h.2.1)⟩
 have HS0 := Lib.hid S0
 have hll := hlen
 simp only [List.length_append] at hll
 have HLL := Lib.hid hll
 have K := Lib.hid (put1z R _ text (t) (w.alloc (exBox op num text (.slice A kids.length cp) place)) S0.1 rfl (by simp only [List.length_append] at hll ⊢; omega) (w.heap.size + 1) (by simp))
 clear S0 hT1 hV1 hV hV' hW hT hlen hsh hop hll
 change Calls Tryz.prog 215 #[.pointer (some ⟨R, 0, none⟩), .agg #[.int .i64 op, .int .i64 num, .string (strN text), (.slice A kids.length cp), .int .i64 place]] w _
 unfold exBox at *
 go_enter Tryz.func215, Tryz.ntmps215
 go_wp2_with fail
 generalize w.alloc (.cells #[.int .i64 op, .int .i64 num, .string (strN text), (.slice A kids.length cp), .int .i64 place] 202) = w1 at *
 (with_reducible refine K.out.mono ?_)
 clear K
 rintro e' w2 hp1
 have hr1 := hp1.1
 subst hr1
 have HS2 := Lib.hid ((Stp.start HS0.out.1).next hp1)
 clear hp1
 have b2 := HS2.out.block HB.out (by omega) (by decide)
 have c3 : w2.cell? ⟨w.heap.size, 3, none⟩ = some (.slice A kids.length cp) := by rw [Lib.cell_of_heap b2]; rfl
 have hll := HLL.out
 have K := Lib.hid (exprAtz R T kids hE (.slice A kids.length cp) 0 0 rfl (t ++ text) w2 HS2.out.1 (HTV.out _ _ HS2.out).1 (HTV.out _ _ HS2.out).2 (by simp only [List.length_append] at hll ⊢; omega))
 clear b2 hll
 go_wp2_with fail
 (with_reducible refine K.out.mono ?_)
 clear K
 rintro e' w3 hp1
 have hr1 := hp1.1
 subst hr1
 have HS3 := Lib.hid (HS2.out.next hp1)
 clear hp1
 go_wp2
 go_end0
 have hfin := HS0.out.trans HS3.out
 refine Stp.puts ?_
 simpa using hfin
set_option maxHeartbeats 800000 in
theorem exprW8 {R : Nat} {T : World → Prop} {p : Nat → Bool} (hF : Fm R p T) (op num : Nat) (text : List Nat) (kids : List Ex) (place : Nat) (hop : op = 8) (hp : p num = true) (hE : ∀ x ∈ kids, ExprWr R T x) : ExprWr R T (.mk op num text kids place) := by
 intro k t w hW hT hV hlen
 have hV' : ExsC w (· < R) kids k := hV
 obtain ⟨A, cp, rfl⟩ := exsC_slice hV'
 have hsh : showE (.mk op num text kids place) = opT [103, 101, 116] 1 (showL kids) := by rw [showE_eq]; subst hop; rfl
 rw [hsh] at hlen ⊢
 have q1 : (((op : Nat) : Int) == 1) = false := by rw [hop]; rfl
 have q2 : (((op : Nat) : Int) == 2) = false := by rw [hop]; rfl
 have q3 : (((op : Nat) : Int) == 3) = false := by rw [hop]; rfl
 have q4 : (((op : Nat) : Int) == 4) = false := by rw [hop]; rfl
 have q5 : (((op : Nat) : Int) == 5) = false := by rw [hop]; rfl
 have q6 : (((op : Nat) : Int) == 6) = false := by rw [hop]; rfl
 have q7 : (((op : Nat) : Int) == 7) = false := by rw [hop]; rfl
 have q8 : (((op : Nat) : Int) == 8) = true := by rw [hop]; rfl
 have HSh := Lib.hid hsh
 have hlR := hW.lt
 have S0 := Stp.alloc hW (exBox op num text (.slice A kids.length cp) place)
 have HB := Lib.hid (heap_alloc_new w (exBox op num text (.slice A kids.length cp) place))
 have hT1 := hF.kept _ _ hT S0.2.1
 have hV1 := hV'.same (below_same S0.2.1)
 have HTV : Hid (∀ u w', Stp R (w.alloc (exBox op num text (.slice A kids.length cp) place)) u w' → T w' ∧ ExsC w' (· < R) kids (.slice A kids.length cp)) := fun u w' h => ⟨hF.kept _ _ hT1 h.2.1, hV1.same (below_same h.2.1)⟩
 have HS0 := Lib.hid S0
 have hll := hlen
 simp only [List.length_append] at hll
 have HLL := Lib.hid hll
 have K := Lib.hid (operationz R T hF.kept kids hE (.slice A kids.length cp) ⟨#[103, 101, 116]⟩ [103, 101, 116] (by kernel_rfl) 1 1 rfl (t) (w.alloc (exBox op num text (.slice A kids.length cp) place)) S0.1 hT1 hV1 (by simp only [List.length_append] at hll ⊢; omega))
 clear S0 hT1 hV1 hV hV' hW hT hlen hsh hop hll
 change Calls Tryz.prog 215 #[.pointer (some ⟨R, 0, none⟩), .agg #[.int .i64 op, .int .i64 num, .string (strN text), (.slice A kids.length cp), .int .i64 place]] w _
 unfold exBox at *
 go_enter Tryz.func215, Tryz.ntmps215
 go_wp2_with fail
 generalize w.alloc (.cells #[.int .i64 op, .int .i64 num, .string (strN text), (.slice A kids.length cp), .int .i64 place] 202) = w1 at *
 (with_reducible refine K.out.mono ?_)
 clear K
 rintro e' w2 hp1
 have hr1 := hp1.1
 subst hr1
 have HS2 := Lib.hid ((Stp.start HS0.out.1).next hp1)
 clear hp1
 go_wp2
 go_end0
 have hfin := HS0.out.trans HS2.out
 refine Stp.puts ?_
 simpa using hfin
set_option maxHeartbeats 800000 in
theorem exprW9 {R : Nat} {T : World → Prop} {p : Nat → Bool} (hF : Fm R p T) (op num : Nat) (text : List Nat) (kids : List Ex) (place : Nat) (hop : op = 9) (hp : p num = true) (hE : ∀ x ∈ kids, ExprWr R T x) : ExprWr R T (.mk op num text kids place) := by
 intro k t w hW hT hV hlen
 have hV' : ExsC w (· < R) kids k := hV
 obtain ⟨A, cp, rfl⟩ := exsC_slice hV'
 have hsh : showE (.mk op num text kids place) = opT [104, 97, 115] 1 (showL kids) := by rw [showE_eq]; subst hop; rfl
 rw [hsh] at hlen ⊢
 have q1 : (((op : Nat) : Int) == 1) = false := by rw [hop]; rfl
 have q2 : (((op : Nat) : Int) == 2) = false := by rw [hop]; rfl
 have q3 : (((op : Nat) : Int) == 3) = false := by rw [hop]; rfl
 have q4 : (((op : Nat) : Int) == 4) = false := by rw [hop]; rfl
 have q5 : (((op : Nat) : Int) == 5) = false := by rw [hop]; rfl
 have q6 : (((op : Nat) : Int) == 6) = false := by rw [hop]; rfl
 have q7 : (((op : Nat) : Int) == 7) = false := by rw [hop]; rfl
 have q8 : (((op : Nat) : Int) == 8) = false := by rw [hop]; rfl
 have q9 : (((op : Nat) : Int) == 9) = true := by rw [hop]; rfl
 have HSh := Lib.hid hsh
 have hlR := hW.lt
 have S0 := Stp.alloc hW (exBox op num text (.slice A kids.length cp) place)
 have HB := Lib.hid (heap_alloc_new w (exBox op num text (.slice A kids.length cp) place))
 have hT1 := hF.kept _ _ hT S0.2.1
 have hV1 := hV'.same (below_same S0.2.1)
 have HTV : Hid (∀ u w', Stp R (w.alloc (exBox op num text (.slice A kids.length cp) place)) u w' → T w' ∧ ExsC w' (· < R) kids (.slice A kids.length cp)) := fun u w' h => ⟨hF.kept _ _ hT1 h.2.1, hV1.same (below_same h.2.1)⟩
 have HS0 := Lib.hid S0
 have hll := hlen
 simp only [List.length_append] at hll
 have HLL := Lib.hid hll
 have K := Lib.hid (operationz R T hF.kept kids hE (.slice A kids.length cp) ⟨#[104, 97, 115]⟩ [104, 97, 115] (by kernel_rfl) 1 1 rfl (t) (w.alloc (exBox op num text (.slice A kids.length cp) place)) S0.1 hT1 hV1 (by simp only [List.length_append] at hll ⊢; omega))
 clear S0 hT1 hV1 hV hV' hW hT hlen hsh hop hll
 change Calls Tryz.prog 215 #[.pointer (some ⟨R, 0, none⟩), .agg #[.int .i64 op, .int .i64 num, .string (strN text), (.slice A kids.length cp), .int .i64 place]] w _
 unfold exBox at *
 go_enter Tryz.func215, Tryz.ntmps215
 go_wp2_with fail
 generalize w.alloc (.cells #[.int .i64 op, .int .i64 num, .string (strN text), (.slice A kids.length cp), .int .i64 place] 202) = w1 at *
 (with_reducible refine K.out.mono ?_)
 clear K
 rintro e' w2 hp1
 have hr1 := hp1.1
 subst hr1
 have HS2 := Lib.hid ((Stp.start HS0.out.1).next hp1)
 clear hp1
 go_wp2
 go_end0
 have hfin := HS0.out.trans HS2.out
 refine Stp.puts ?_
 simpa using hfin
set_option maxHeartbeats 800000 in
theorem exprW10 {R : Nat} {T : World → Prop} {p : Nat → Bool} (hF : Fm R p T) (op num : Nat) (text : List Nat) (kids : List Ex) (place : Nat) (hop : op = 10) (hp : p num = true) (hE : ∀ x ∈ kids, ExprWr R T x) : ExprWr R T (.mk op num text kids place) := by
 intro k t w hW hT hV hlen
 have hV' : ExsC w (· < R) kids k := hV
 obtain ⟨A, cp, rfl⟩ := exsC_slice hV'
 have hsh : showE (.mk op num text kids place) = opT [108, 101, 110] 1 (showL kids) := by rw [showE_eq]; subst hop; rfl
 rw [hsh] at hlen ⊢
 have q1 : (((op : Nat) : Int) == 1) = false := by rw [hop]; rfl
 have q2 : (((op : Nat) : Int) == 2) = false := by rw [hop]; rfl
 have q3 : (((op : Nat) : Int) == 3) = false := by rw [hop]; rfl
 have q4 : (((op : Nat) : Int) == 4) = false := by rw [hop]; rfl
 have q5 : (((op : Nat) : Int) == 5) = false := by rw [hop]; rfl
 have q6 : (((op : Nat) : Int) == 6) = false := by rw [hop]; rfl
 have q7 : (((op : Nat) : Int) == 7) = false := by rw [hop]; rfl
 have q8 : (((op : Nat) : Int) == 8) = false := by rw [hop]; rfl
 have q9 : (((op : Nat) : Int) == 9) = false := by rw [hop]; rfl
 have q10 : (((op : Nat) : Int) == 10) = true := by rw [hop]; rfl
 have HSh := Lib.hid hsh
 have hlR := hW.lt
 have S0 := Stp.alloc hW (exBox op num text (.slice A kids.length cp) place)
 have HB := Lib.hid (heap_alloc_new w (exBox op num text (.slice A kids.length cp) place))
 have hT1 := hF.kept _ _ hT S0.2.1
 have hV1 := hV'.same (below_same S0.2.1)
 have HTV : Hid (∀ u w', Stp R (w.alloc (exBox op num text (.slice A kids.length cp) place)) u w' → T w' ∧ ExsC w' (· < R) kids (.slice A kids.length cp)) := fun u w' h => ⟨hF.kept _ _ hT1 h.2.1, hV1.same (below_same h.2.1)⟩
 have HS0 := Lib.hid S0
 have hll := hlen
 simp only [List.length_append] at hll
 have HLL := Lib.hid hll
 have K := Lib.hid (operationz R T hF.kept kids hE (.slice A kids.length cp) ⟨#[108, 101, 110]⟩ [108, 101, 110] (by kernel_rfl) 1 1 rfl (t) (w.alloc (exBox op num text (.slice A kids.length cp) place)) S0.1 hT1 hV1 (by simp only [List.length_append] at hll ⊢; omega))
 clear S0 hT1 hV1 hV hV' hW hT hlen hsh hop hll
 change Calls Tryz.prog 215 #[.pointer (some ⟨R, 0, none⟩), .agg #[.int .i64 op, .int .i64 num, .string (strN text), (.slice A kids.length cp), .int .i64 place]] w _
 unfold exBox at *
 go_enter Tryz.func215, Tryz.ntmps215
 go_wp2_with fail
 generalize w.alloc (.cells #[.int .i64 op, .int .i64 num, .string (strN text), (.slice A kids.length cp), .int .i64 place] 202) = w1 at *
 (with_reducible refine K.out.mono ?_)
 clear K
 rintro e' w2 hp1
 have hr1 := hp1.1
 subst hr1
 have HS2 := Lib.hid ((Stp.start HS0.out.1).next hp1)
 clear hp1
 go_wp2
 go_end0
 have hfin := HS0.out.trans HS2.out
 refine Stp.puts ?_
 simpa using hfin
set_option maxHeartbeats 800000 in
theorem exprW1 {R : Nat} {T : World → Prop} {p : Nat → Bool} (hF : Fm R p T) (op num : Nat) (text : List Nat) (kids : List Ex) (place : Nat) (hop : op = 1) (hp : p num = true) (hE : ∀ x ∈ kids, ExprWr R T x) : ExprWr R T (.mk op num text kids place) := by
 intro k t w hW hT hV hlen
 have hV' : ExsC w (· < R) kids k := hV
 obtain ⟨A, cp, rfl⟩ := exsC_slice hV'
 have hsh : showE (.mk op num text kids place) = decN num := by rw [showE_eq]; subst hop; rfl
 rw [hsh] at hlen ⊢
 have q1 : (((op : Nat) : Int) == 1) = true := by rw [hop]; rfl
 have HSh := Lib.hid hsh
 have hlR := hW.lt
 have S0 := Stp.alloc hW (exBox op num text (.slice A kids.length cp) place)
 have HB := Lib.hid (heap_alloc_new w (exBox op num text (.slice A kids.length cp) place))
 have hT1 := hF.kept _ _ hT S0.2.1
 have hV1 := hV'.same (below_same S0.2.1)
 have HTV : Hid (∀ u w', Stp R (w.alloc (exBox op num text (.slice A kids.length cp) place)) u w' → T w' ∧ ExsC w' (· < R) kids (.slice A kids.length cp)) := fun u w' h => ⟨hF.kept _ _ hT1 h.2.1, hV1.same (below_same h.2.1)⟩
 have HS0 := Lib.hid S0
 have HL := Lib.hid hlen
 have K := Lib.hid (hF.call num (w.alloc (exBox op num text (.slice A kids.length cp) place)) hp hT1)
 clear S0 hT1 hV1 hV hV' hW hT hlen hsh hop
 change Calls Tryz.prog 215 #[.pointer (some ⟨R, 0, none⟩), .agg #[.int .i64 op, .int .i64 num, .string (strN text), (.slice A kids.length cp), .int .i64 place]] w _
 unfold exBox at *
 go_enter Tryz.func215, Tryz.ntmps215
 go_wp2_with fail
 generalize w.alloc (.cells #[.int .i64 op, .int .i64 num, .string (strN text), (.slice A kids.length cp), .int .i64 place] 202) = w1 at *
 (with_reducible refine K.out.mono ?_)
 clear K
 rintro e' w2 ⟨rfl, hb⟩
 have HS2 := Lib.hid (Wr.below HS0.out.1 hb)
 have K := Lib.hid (put1z R _ (decN num) t w2 HS2.out.1 rfl HL.out w2.heap.size rfl)
 clear hb
 go_wp2_with fail
 (with_reducible refine K.out.mono ?_)
 clear K
 rintro e' w3 hp1
 have hr1 := hp1.1
 subst hr1
 have HS3 := Lib.hid (HS2.out.next hp1)
 clear hp1
 go_wp2
 go_end0
 have hfin := HS0.out.trans HS3.out
 exact hfin.puts
set_option maxHeartbeats 800000 in
theorem exprW2t {R : Nat} {T : World → Prop} {p : Nat → Bool} (hF : Fm R p T) (op num : Nat) (text : List Nat) (kids : List Ex) (place : Nat) (hop : op = 2) (hnum : num = 1) (hp : p num = true) (hE : ∀ x ∈ kids, ExprWr R T x) : ExprWr R T (.mk op num text kids place) := by
 intro k t w hW hT hV hlen
 have hV' : ExsC w (· < R) kids k := hV
 obtain ⟨A, cp, rfl⟩ := exsC_slice hV'
 have hsh : showE (.mk op num text kids place) = [116, 114, 117, 101] := by rw [showE_eq]; subst hop; show boolT num = _; unfold boolT; rw [if_pos hnum]
 rw [hsh] at hlen ⊢
 have q1 : (((op : Nat) : Int) == 1) = false := by rw [hop]; rfl
 have q2 : (((op : Nat) : Int) == 2) = true := by rw [hop]; rfl
 have HSh := Lib.hid hsh
 have hlR := hW.lt
 have S0 := Stp.alloc hW (exBox op num text (.slice A kids.length cp) place)
 have HB := Lib.hid (heap_alloc_new w (exBox op num text (.slice A kids.length cp) place))
 have hT1 := hF.kept _ _ hT S0.2.1
 have hV1 := hV'.same (below_same S0.2.1)
 have HTV : Hid (∀ u w', Stp R (w.alloc (exBox op num text (.slice A kids.length cp) place)) u w' → T w' ∧ ExsC w' (· < R) kids (.slice A kids.length cp)) := fun u w' h => ⟨hF.kept _ _ hT1 h.2.1, hV1.same (below_same h.2.1)⟩
 have HS0 := Lib.hid S0
 have HL := Lib.hid hlen
 have qn : (((num : Nat) : Int) == 1) = true := by rw [hnum]; rfl
 have K := Lib.hid (formatBool true (w.alloc (exBox op num text (.slice A kids.length cp) place)))
 clear S0 hT1 hV1 hV hV' hW hT hlen hsh hop hnum
 change Calls Tryz.prog 215 #[.pointer (some ⟨R, 0, none⟩), .agg #[.int .i64 op, .int .i64 num, .string (strN text), (.slice A kids.length cp), .int .i64 place]] w _
 unfold exBox at *
 go_enter Tryz.func215, Tryz.ntmps215
 go_wp2_with fail
 generalize w.alloc (.cells #[.int .i64 op, .int .i64 num, .string (strN text), (.slice A kids.length cp), .int .i64 place] 202) = w1 at *
 (with_reducible refine K.out.mono ?_)
 clear K
 rintro e' w2 ⟨rfl, rfl⟩
 have K := Lib.hid (put1z R _ [116, 114, 117, 101] t w1 HS0.out.1 rfl HL.out w1.heap.size rfl)
 go_wp2_with fail
 (with_reducible refine K.out.mono ?_)
 clear K
 rintro e' w3 hp1
 have hr1 := hp1.1
 subst hr1
 have HS3 := Lib.hid ((Stp.start HS0.out.1).next hp1)
 clear hp1
 go_wp2
 go_end0
 have hfin := HS0.out.trans HS3.out
 exact hfin.puts
set_option maxHeartbeats 800000 in
theorem exprW2f {R : Nat} {T : World → Prop} {p : Nat → Bool} (hF : Fm R p T) (op num : Nat) (text : List Nat) (kids : List Ex) (place : Nat) (hop : op = 2) (hnum : num ≠ 1) (hp : p num = true) (hE : ∀ x ∈ kids, ExprWr R T x) : ExprWr R T (.mk op num text kids place) := by
 intro k t w hW hT hV hlen
 have hV' : ExsC w (· < R) kids k := hV
 obtain ⟨A, cp, rfl⟩ := exsC_slice hV'
 have hsh : showE (.mk op num text kids place) = [102, 97, 108, 115, 101] := by rw [showE_eq]; subst hop; show boolT num = _; unfold boolT; rw [if_neg hnum]
 rw [hsh] at hlen ⊢
 have q1 : (((op : Nat) : Int) == 1) = false := by rw [hop]; rfl
 have q2 : (((op : Nat) : Int) == 2) = true := by rw [hop]; rfl
 have HSh := Lib.hid hsh
 have hlR := hW.lt
 have S0 := Stp.alloc hW (exBox op num text (.slice A kids.length cp) place)
 have HB := Lib.hid (heap_alloc_new w (exBox op num text (.slice A kids.length cp) place))
 have hT1 := hF.kept _ _ hT S0.2.1
 have hV1 := hV'.same (below_same S0.2.1)
 have HTV : Hid (∀ u w', Stp R (w.alloc (exBox op num text (.slice A kids.length cp) place)) u w' → T w' ∧ ExsC w' (· < R) kids (.slice A kids.length cp)) := fun u w' h => ⟨hF.kept _ _ hT1 h.2.1, hV1.same (below_same h.2.1)⟩
 have HS0 := Lib.hid S0
 have HL := Lib.hid hlen
 have qn : (((num : Nat) : Int) == 1) = false := by rw [beq_eq_false_iff_ne]; omega
 have K := Lib.hid (formatBool false (w.alloc (exBox op num text (.slice A kids.length cp) place)))
 clear S0 hT1 hV1 hV hV' hW hT hlen hsh hop hnum
 change Calls Tryz.prog 215 #[.pointer (some ⟨R, 0, none⟩), .agg #[.int .i64 op, .int .i64 num, .string (strN text), (.slice A kids.length cp), .int .i64 place]] w _
 unfold exBox at *
 go_enter Tryz.func215, Tryz.ntmps215
 go_wp2_with fail
 generalize w.alloc (.cells #[.int .i64 op, .int .i64 num, .string (strN text), (.slice A kids.length cp), .int .i64 place] 202) = w1 at *
 (with_reducible refine K.out.mono ?_)
 clear K
 rintro e' w2 ⟨rfl, rfl⟩
 have K := Lib.hid (put1z R _ [102, 97, 108, 115, 101] t w1 HS0.out.1 rfl HL.out w1.heap.size rfl)
 go_wp2_with fail
 (with_reducible refine K.out.mono ?_)
 clear K
 rintro e' w3 hp1
 have hr1 := hp1.1
 subst hr1
 have HS3 := Lib.hid ((Stp.start HS0.out.1).next hp1)
 clear hp1
 go_wp2
 go_end0
 have hfin := HS0.out.trans HS3.out
 exact hfin.puts
set_option maxHeartbeats 800000 in
theorem exprW11 {R : Nat} {T : World → Prop} {p : Nat → Bool} (hF : Fm R p T) (op num : Nat) (text : List Nat) (kids : List Ex) (place : Nat) (hop : op = 0 ∨ 10 < op) (hp : p num = true) (hE : ∀ x ∈ kids, ExprWr R T x) : ExprWr R T (.mk op num text kids place) := by
 intro k t w hW hT hV hlen
 have hV' : ExsC w (· < R) kids k := hV
 obtain ⟨A, cp, rfl⟩ := exsC_slice hV'
 have hsh : showE (.mk op num text kids place) = [] := by rw [showE_eq]; show showOp op num text (showL kids) = _; unfold showOp; rw [if_neg (by omega), if_neg (by omega), if_neg (by omega), if_neg (by omega), if_neg (by omega), if_neg (by omega), if_neg (by omega), if_neg (by omega), if_neg (by omega), if_neg (by omega)]
 rw [hsh] at hlen ⊢
 have HSh := Lib.hid hsh
 have hlR := hW.lt
 have S0 := Stp.alloc hW (exBox op num text (.slice A kids.length cp) place)
 have HB := Lib.hid (heap_alloc_new w (exBox op num text (.slice A kids.length cp) place))
 have hT1 := hF.kept _ _ hT S0.2.1
 have hV1 := hV'.same (below_same S0.2.1)
 have HTV : Hid (∀ u w', Stp R (w.alloc (exBox op num text (.slice A kids.length cp) place)) u w' → T w' ∧ ExsC w' (· < R) kids (.slice A kids.length cp)) := fun u w' h => ⟨hF.kept _ _ hT1 h.2.1, hV1.same (below_same h.2.1)⟩
 have HS0 := Lib.hid S0
 have q1 : (((op : Nat) : Int) == 1) = false := by rw [beq_eq_false_iff_ne]; omega
 have q2 : (((op : Nat) : Int) == 2) = false := by rw [beq_eq_false_iff_ne]; omega
 have q3 : (((op : Nat) : Int) == 3) = false := by rw [beq_eq_false_iff_ne]; omega
 have q4 : (((op : Nat) : Int) == 4) = false := by rw [beq_eq_false_iff_ne]; omega
 have q5 : (((op : Nat) : Int) == 5) = false := by rw [beq_eq_false_iff_ne]; omega
 have q6 : (((op : Nat) : Int) == 6) = false := by rw [beq_eq_false_iff_ne]; omega
 have q7 : (((op : Nat) : Int) == 7) = false := by rw [beq_eq_false_iff_ne]; omega
 have q8 : (((op : Nat) : Int) == 8) = false := by rw [beq_eq_false_iff_ne]; omega
 have q9 : (((op : Nat) : Int) == 9) = false := by rw [beq_eq_false_iff_ne]; omega
 have q10 : (((op : Nat) : Int) == 10) = false := by rw [beq_eq_false_iff_ne]; omega
 clear S0 hT1 hV1 hV hV' hW hT hlen hsh hop
 change Calls Tryz.prog 215 #[.pointer (some ⟨R, 0, none⟩), .agg #[.int .i64 op, .int .i64 num, .string (strN text), (.slice A kids.length cp), .int .i64 place]] w _
 unfold exBox at *
 go_enter Tryz.func215, Tryz.ntmps215
 go_wp2
 go_end0
 have hfin := HS0.out
 exact Stp.puts (by simpa using hfin)
theorem expr_wr {R : Nat} {T : World → Prop} {p : Nat → Bool} (hF : Fm R p T) : ∀ e : Ex, numsE p e = true → ExprWr R T e
 | .mk op num text kids place, h => by
  have h' := h
  simp only [numsE, Bool.and_eq_true] at h'
  have hE : ∀ x ∈ kids, ExprWr R T x := fun x hx => expr_wr hF x (numsL_mem h'.2 x hx)
  by_cases h0 : op = 0 ∨ 10 < op
  ·exact exprW11 hF op num text kids place h0 h'.1 hE
  by_cases h1 : op = 1
  ·exact exprW1 hF op num text kids place h1 h'.1 hE
  by_cases h2 : op = 2
  ·by_cases hn : num = 1
   ·exact exprW2t hF op num text kids place h2 hn h'.1 hE
   ·exact exprW2f hF op num text kids place h2 hn h'.1 hE
  by_cases h3 : op = 3
  ·exact exprW3 hF op num text kids place h3 h'.1 hE
  by_cases h4 : op = 4
  ·exact exprW4 hF op num text kids place h4 h'.1 hE
  by_cases h5 : op = 5
  ·exact exprW5 hF op num text kids place h5 h'.1 hE
  by_cases h6 : op = 6
  ·exact exprW6 hF op num text kids place h6 h'.1 hE
  by_cases h7 : op = 7
  ·exact exprW7 hF op num text kids place h7 h'.1 hE
  by_cases h8 : op = 8
  ·exact exprW8 hF op num text kids place h8 h'.1 hE
  by_cases h9 : op = 9
  ·exact exprW9 hF op num text kids place h9 h'.1 hE
  exact exprW10 hF op num text kids place (by omega) h'.1 hE
termination_by e => SizeOf.sizeOf e
decreasing_by
 have := List.sizeOf_lt_of_mem hx
 simp
 omega
end
section
open Go.RowKit
set_option maxRecDepth 100000
set_option linter.unusedSimpArgs false
set_option linter.unusedVariables false
theorem stsC_sl {w : World} {D : Nat → Prop} {l : List St} {k : Value} (h : StsC w D l k) : ∃ A c, k = .slice A l.length c := by
 cases h with
 | mk _ ks _ _ h1 _ _ _ =>
  obtain ⟨A, c, e, _⟩ := h1
  exact ⟨A, c, e⟩
def BlockWr (R : Nat) (T : World → Prop) (l : List St) : Prop := ∀ (V : Value) (t : List Nat) (w : World), Wr R t w → T w → StsC w (· < R) l V → (t ++ blockT (showB l)).length ≤ 140737488355328 →
 Calls Tryz.prog 100 #[.pointer (some ⟨R, 0, none⟩), V] w (Puts R t (blockT (showB l)) w)
def StmtOk (R : Nat) (T : World → Prop) (s : St) : Prop := ∀ (k : Three) (t : List Nat) (w : World), Wr R t w → T w → ExsC w (· < R) s.exprs k.e → StsC w (· < R) s.body k.b → StsC w (· < R) s.els k.f → (t ++ showS s).length ≤ 140737488355328 →
 Calls Tryz.prog 138 #[.pointer (some ⟨R, 0, none⟩), .agg (stC s k.e k.b k.f).toArray] w (Puts R t (showS s) w)
def StI (R : Nat) (T : World → Prop) (exprs : List Ex) (body els : List St) (E B F : Value) (w : World) : Prop := T w ∧ ExsC w (· < R) exprs E ∧ StsC w (· < R) body B ∧ StsC w (· < R) els F
theorem StI.kept {R : Nat} {T : World → Prop} (hT : ∀ w w', T w → Below R w w' → T w') {exprs : List Ex} {body els : List St} {E B F : Value} {w w' : World} (h : StI R T exprs body els E B F w) (hb : Below R w w') : StI R T exprs body els E B F w' :=
 ⟨hT _ _ h.1 hb, h.2.1.same (below_same hb), h.2.2.1.same (below_same hb), h.2.2.2.same (below_same hb)⟩
def stBox (op : Nat) (text : List Nat) (E B F : Value) (place : Nat) : Obj := .cells #[.int .i64 op, .string (strN text), E, B, F, .int .i64 place] 145 (0, 0)
set_option maxHeartbeats 800000 in
theorem assign (R : Nat) (T : World → Prop) (hT0 : ∀ w w', T w → Below R w w' → T w') (op : Nat) (text : List Nat) (exprs : List Ex) (body els : List St) (E B F : Value) (place : Nat) (hE : ∀ x ∈ exprs, ExprWr R T x) (t : List Nat) (w : World) (hW : Wr R t w) (hI : StI R T exprs body els E B F w) (hlen : (t ++ setT text (showL exprs)).length ≤ 140737488355328) :
  Calls Tryz.prog 177 #[.pointer (some ⟨R, 0, none⟩), .agg #[.int .i64 op, .string (strN text), E, B, F, .int .i64 place]] w (Puts R t (setT text (showL exprs)) w) := by
 obtain ⟨Ae, ce, rfl⟩ := exsC_slice hI.2.1
 obtain ⟨Ab, cb, rfl⟩ := stsC_sl hI.2.2.1
 obtain ⟨Af, cf, rfl⟩ := stsC_sl hI.2.2.2
 unfold setT at hlen
 have hlR := hW.lt
 have S0 := Stp.alloc hW (stBox op text (.slice Ae exprs.length ce) (.slice Ab body.length cb) (.slice Af els.length cf) place)
 have HB := Lib.hid (heap_alloc_new w (stBox op text (.slice Ae exprs.length ce) (.slice Ab body.length cb) (.slice Af els.length cf) place))
 have hI1 := hI.kept hT0 S0.2.1
 have HTV : Hid (∀ u w', Stp R (w.alloc (stBox op text (.slice Ae exprs.length ce) (.slice Ab body.length cb) (.slice Af els.length cf) place)) u w' → StI R T exprs body els (.slice Ae exprs.length ce) (.slice Ab body.length cb) (.slice Af els.length cf) w') := fun u w' h => hI1.kept hT0 h.2.1
 have HS0 := Lib.hid S0
 have hll := hlen
 simp only [List.length_append] at hll
 have HLL := Lib.hid hll
 have K := Lib.hid (put2z R _ ⟨#[32, 61, 32]⟩ text [32, 61, 32] (t) (w.alloc (stBox op text (.slice Ae exprs.length ce) (.slice Ab body.length cb) (.slice Af els.length cf) place)) S0.1 rfl (by kernel_rfl) (by simp only [List.length_append] at hll ⊢; omega) (w.heap.size + 1) (by simp))
 clear S0 hI1 hI hW hlen hll
 unfold stBox at *
 go_enter Tryz.func177, Tryz.ntmps177
 go_wp2_with fail
 generalize w.alloc (.cells #[.int .i64 op, .string (strN text), (.slice Ae exprs.length ce), (.slice Ab body.length cb), (.slice Af els.length cf), .int .i64 place] 145) = w1 at *
 (with_reducible refine K.out.mono ?_)
 clear K
 rintro e' w2 hp1
 have hr1 := hp1.1
 subst hr1
 have HS2 := Lib.hid ((Stp.start HS0.out.1).next hp1)
 clear hp1
 have b2 := HS2.out.block HB.out (by omega) (by decide)
 have c2 : w2.cell? ⟨w.heap.size, 2, none⟩ = some ((.slice Ae exprs.length ce)) := by rw [Lib.cell_of_heap b2]; rfl
 have hll := HLL.out
 have K := Lib.hid (exprAtz R T exprs hE (.slice Ae exprs.length ce) 0 0 rfl (t ++ (text ++ [32, 61, 32])) w2 HS2.out.1 (HTV.out _ _ HS2.out).1 (HTV.out _ _ HS2.out).2.1 (by simp only [List.length_append] at hll ⊢; omega))
 clear hll
 clear b2
 go_wp2_with fail
 (with_reducible refine K.out.mono ?_)
 clear K
 rintro e' w3 hp1
 have hr1 := hp1.1
 subst hr1
 have HS3 := Lib.hid (HS2.out.next hp1)
 clear hp1
 go_wp2
 go_end0
 have hfin := HS0.out.trans HS3.out
 refine Stp.puts ?_
 simpa [setT] using hfin
def chT (exprs : List Ex) (body els : List St) : List Nat := [105, 102, 32] ++ atK (showL exprs) 0 ++ [32] ++ blockT (showB body) ++ (if els.isEmpty then [] else [32, 101, 108, 115, 101, 32] ++ blockT (showB els))
set_option maxHeartbeats 1600000 in
theorem choicen (R : Nat) (T : World → Prop) (hT0 : ∀ w w', T w → Below R w w' → T w') (op : Nat) (text : List Nat) (exprs : List Ex) (body els : List St) (E B F : Value) (place : Nat) (hE : ∀ x ∈ exprs, ExprWr R T x) (hB : BlockWr R T body) (hL : BlockWr R T els) (hc : els = []) (t : List Nat) (w : World) (hW : Wr R t w) (hI : StI R T exprs body els E B F w) (hlen : (t ++ chT exprs body els).length ≤ 140737488355328) :
  Calls Tryz.prog 178 #[.pointer (some ⟨R, 0, none⟩), .agg #[.int .i64 op, .string (strN text), E, B, F, .int .i64 place]] w (Puts R t (chT exprs body els) w) := by
 obtain ⟨Ae, ce, rfl⟩ := exsC_slice hI.2.1
 obtain ⟨Ab, cb, rfl⟩ := stsC_sl hI.2.2.1
 obtain ⟨Af, cf, rfl⟩ := stsC_sl hI.2.2.2
 have hch : chT exprs body els = [105, 102, 32] ++ atK (showL exprs) 0 ++ [32] ++ blockT (showB body) ++ ([]) := by
  unfold chT
  subst hc; rfl
 rw [hch] at hlen ⊢
 have HCh := Lib.hid hch
 have hz : els.length = 0 := by rw [hc]; rfl
 have hzz : decide (0 < els.length) = false := by simp; omega
 clear hch hc hz
 have hlR := hW.lt
 have S0 := Stp.alloc hW (stBox op text (.slice Ae exprs.length ce) (.slice Ab body.length cb) (.slice Af els.length cf) place)
 have HB := Lib.hid (heap_alloc_new w (stBox op text (.slice Ae exprs.length ce) (.slice Ab body.length cb) (.slice Af els.length cf) place))
 have hI1 := hI.kept hT0 S0.2.1
 have HTV : Hid (∀ u w', Stp R (w.alloc (stBox op text (.slice Ae exprs.length ce) (.slice Ab body.length cb) (.slice Af els.length cf) place)) u w' → StI R T exprs body els (.slice Ae exprs.length ce) (.slice Ab body.length cb) (.slice Af els.length cf) w') := fun u w' h => hI1.kept hT0 h.2.1
 have HS0 := Lib.hid S0
 have hll := hlen
 simp only [List.length_append] at hll
 have HLL := Lib.hid hll
 have K := Lib.hid (put1z R ⟨#[105, 102, 32]⟩ [105, 102, 32] (t) (w.alloc (stBox op text (.slice Ae exprs.length ce) (.slice Ab body.length cb) (.slice Af els.length cf) place)) S0.1 (by kernel_rfl) (by simp only [List.length_append] at hll ⊢; omega) (w.heap.size + 1) (by simp))
 clear S0 hI1 hI hW hlen hll
 unfold stBox at *
 go_enter Tryz.func178, Tryz.ntmps178
 go_wp2_with fail
 generalize w.alloc (.cells #[.int .i64 op, .string (strN text), (.slice Ae exprs.length ce), (.slice Ab body.length cb), (.slice Af els.length cf), .int .i64 place] 145) = w1 at *
 (with_reducible refine K.out.mono ?_)
 clear K
 rintro e' w2 hp1
 have hr1 := hp1.1
 subst hr1
 have HS2 := Lib.hid ((Stp.start HS0.out.1).next hp1)
 clear hp1
 have b2 := HS2.out.block HB.out (by omega) (by decide)
 have c2 : w2.cell? ⟨w.heap.size, 2, none⟩ = some ((.slice Ae exprs.length ce)) := by rw [Lib.cell_of_heap b2]; rfl
 have hll := HLL.out
 have K := Lib.hid (exprAtz R T exprs hE (.slice Ae exprs.length ce) 0 0 rfl (t ++ [105, 102, 32]) w2 HS2.out.1 (HTV.out _ _ HS2.out).1 (HTV.out _ _ HS2.out).2.1 (by simp only [List.length_append] at hll ⊢; omega))
 clear hll
 clear b2
 go_wp2_with fail
 (with_reducible refine K.out.mono ?_)
 clear K
 rintro e' w3 hp1
 have hr1 := hp1.1
 subst hr1
 have HS3 := Lib.hid (HS2.out.next hp1)
 clear hp1
 have hll := HLL.out
 have K := Lib.hid (put1z R ⟨#[32]⟩ [32] (t ++ [105, 102, 32] ++ atK (showL exprs) 0) w3 HS3.out.1 (by kernel_rfl) (by simp only [List.length_append] at hll ⊢; omega) w3.heap.size rfl)
 clear hll
 go_wp2_with fail
 (with_reducible refine K.out.mono ?_)
 clear K
 rintro e' w4 hp1
 have hr1 := hp1.1
 subst hr1
 have HS4 := Lib.hid (HS3.out.next hp1)
 clear hp1
 have b4 := HS4.out.block HB.out (by omega) (by decide)
 have c3 : w4.cell? ⟨w.heap.size, 3, none⟩ = some ((.slice Ab body.length cb)) := by rw [Lib.cell_of_heap b4]; rfl
 have hll := HLL.out
 have K := Lib.hid (hB (.slice Ab body.length cb) (t ++ [105, 102, 32] ++ atK (showL exprs) 0 ++ [32]) w4 HS4.out.1 (HTV.out _ _ HS4.out).1 (HTV.out _ _ HS4.out).2.2.1 (by simp only [List.length_append] at hll ⊢; omega))
 clear hll
 clear b4
 go_wp2_with fail
 (with_reducible refine K.out.mono ?_)
 clear K
 rintro e' w5 hp1
 have hr1 := hp1.1
 subst hr1
 have HS5 := Lib.hid (HS4.out.next hp1)
 clear hp1
 have b5 := HS5.out.block HB.out (by omega) (by decide)
 have c4 : w5.cell? ⟨w.heap.size, 4, none⟩ = some ((.slice Af els.length cf)) := by rw [Lib.cell_of_heap b5]; rfl
 clear b5
 go_wp2
 go_end0
 have hfin := HS0.out.trans HS5.out
 refine Stp.puts ?_
 simpa using hfin
set_option maxHeartbeats 1600000 in
theorem choicey (R : Nat) (T : World → Prop) (hT0 : ∀ w w', T w → Below R w w' → T w') (op : Nat) (text : List Nat) (exprs : List Ex) (body els : List St) (E B F : Value) (place : Nat) (hE : ∀ x ∈ exprs, ExprWr R T x) (hB : BlockWr R T body) (hL : BlockWr R T els) (hc : els ≠ []) (t : List Nat) (w : World) (hW : Wr R t w) (hI : StI R T exprs body els E B F w) (hlen : (t ++ chT exprs body els).length ≤ 140737488355328) :
  Calls Tryz.prog 178 #[.pointer (some ⟨R, 0, none⟩), .agg #[.int .i64 op, .string (strN text), E, B, F, .int .i64 place]] w (Puts R t (chT exprs body els) w) := by
 obtain ⟨Ae, ce, rfl⟩ := exsC_slice hI.2.1
 obtain ⟨Ab, cb, rfl⟩ := stsC_sl hI.2.2.1
 obtain ⟨Af, cf, rfl⟩ := stsC_sl hI.2.2.2
 have hch : chT exprs body els = [105, 102, 32] ++ atK (showL exprs) 0 ++ [32] ++ blockT (showB body) ++ ([32, 101, 108, 115, 101, 32] ++ blockT (showB els)) := by
  unfold chT
  rw [if_neg (by cases els with | nil => exact absurd rfl hc | cons => simp)]
 rw [hch] at hlen ⊢
 have HCh := Lib.hid hch
 have hz : 0 < els.length := by cases els with | nil => exact absurd rfl hc | cons => simp
 have hzz : decide (0 < els.length) = true := by simp; omega
 clear hch hc 
 have hlR := hW.lt
 have S0 := Stp.alloc hW (stBox op text (.slice Ae exprs.length ce) (.slice Ab body.length cb) (.slice Af els.length cf) place)
 have HB := Lib.hid (heap_alloc_new w (stBox op text (.slice Ae exprs.length ce) (.slice Ab body.length cb) (.slice Af els.length cf) place))
 have hI1 := hI.kept hT0 S0.2.1
 have HTV : Hid (∀ u w', Stp R (w.alloc (stBox op text (.slice Ae exprs.length ce) (.slice Ab body.length cb) (.slice Af els.length cf) place)) u w' → StI R T exprs body els (.slice Ae exprs.length ce) (.slice Ab body.length cb) (.slice Af els.length cf) w') := fun u w' h => hI1.kept hT0 h.2.1
 have HS0 := Lib.hid S0
 have hll := hlen
 simp only [List.length_append] at hll
 have HLL := Lib.hid hll
 have K := Lib.hid (put1z R ⟨#[105, 102, 32]⟩ [105, 102, 32] (t) (w.alloc (stBox op text (.slice Ae exprs.length ce) (.slice Ab body.length cb) (.slice Af els.length cf) place)) S0.1 (by kernel_rfl) (by simp only [List.length_append] at hll ⊢; omega) (w.heap.size + 1) (by simp))
 clear S0 hI1 hI hW hlen hll
 unfold stBox at *
 go_enter Tryz.func178, Tryz.ntmps178
 go_wp2_with fail
 generalize w.alloc (.cells #[.int .i64 op, .string (strN text), (.slice Ae exprs.length ce), (.slice Ab body.length cb), (.slice Af els.length cf), .int .i64 place] 145) = w1 at *
 (with_reducible refine K.out.mono ?_)
 clear K
 rintro e' w2 hp1
 have hr1 := hp1.1
 subst hr1
 have HS2 := Lib.hid ((Stp.start HS0.out.1).next hp1)
 clear hp1
 have b2 := HS2.out.block HB.out (by omega) (by decide)
 have c2 : w2.cell? ⟨w.heap.size, 2, none⟩ = some ((.slice Ae exprs.length ce)) := by rw [Lib.cell_of_heap b2]; rfl
 have hll := HLL.out
 have K := Lib.hid (exprAtz R T exprs hE (.slice Ae exprs.length ce) 0 0 rfl (t ++ [105, 102, 32]) w2 HS2.out.1 (HTV.out _ _ HS2.out).1 (HTV.out _ _ HS2.out).2.1 (by simp only [List.length_append] at hll ⊢; omega))
 clear hll
 clear b2
 go_wp2_with fail
 (with_reducible refine K.out.mono ?_)
 clear K
 rintro e' w3 hp1
 have hr1 := hp1.1
 subst hr1
 have HS3 := Lib.hid (HS2.out.next hp1)
 clear hp1
 have hll := HLL.out
 have K := Lib.hid (put1z R ⟨#[32]⟩ [32] (t ++ [105, 102, 32] ++ atK (showL exprs) 0) w3 HS3.out.1 (by kernel_rfl) (by simp only [List.length_append] at hll ⊢; omega) w3.heap.size rfl)
 clear hll
 go_wp2_with fail
 (with_reducible refine K.out.mono ?_)
 clear K
 rintro e' w4 hp1
 have hr1 := hp1.1
 subst hr1
 have HS4 := Lib.hid (HS3.out.next hp1)
 clear hp1
 have b4 := HS4.out.block HB.out (by omega) (by decide)
 have c3 : w4.cell? ⟨w.heap.size, 3, none⟩ = some ((.slice Ab body.length cb)) := by rw [Lib.cell_of_heap b4]; rfl
 have hll := HLL.out
 have K := Lib.hid (hB (.slice Ab body.length cb) (t ++ [105, 102, 32] ++ atK (showL exprs) 0 ++ [32]) w4 HS4.out.1 (HTV.out _ _ HS4.out).1 (HTV.out _ _ HS4.out).2.2.1 (by simp only [List.length_append] at hll ⊢; omega))
 clear hll
 clear b4
 go_wp2_with fail
 (with_reducible refine K.out.mono ?_)
 clear K
 rintro e' w5 hp1
 have hr1 := hp1.1
 subst hr1
 have HS5 := Lib.hid (HS4.out.next hp1)
 clear hp1
 have b5 := HS5.out.block HB.out (by omega) (by decide)
 have c4 : w5.cell? ⟨w.heap.size, 4, none⟩ = some ((.slice Af els.length cf)) := by rw [Lib.cell_of_heap b5]; rfl
 have hll := HLL.out
 have K := Lib.hid (put1z R ⟨#[32, 101, 108, 115, 101, 32]⟩ [32, 101, 108, 115, 101, 32] (t ++ [105, 102, 32] ++ atK (showL exprs) 0 ++ [32] ++ blockT (showB body)) w5 HS5.out.1 (by kernel_rfl) (by simp only [List.length_append] at hll ⊢; omega) w5.heap.size rfl)
 clear hll
 clear b5
 go_wp2_with fail
 (with_reducible refine K.out.mono ?_)
 clear K
 rintro e' w6 hp1
 have hr1 := hp1.1
 subst hr1
 have HS6 := Lib.hid (HS5.out.next hp1)
 clear hp1
 have b6 := HS6.out.block HB.out (by omega) (by decide)
 have c4 : w6.cell? ⟨w.heap.size, 4, none⟩ = some ((.slice Af els.length cf)) := by rw [Lib.cell_of_heap b6]; rfl
 have hll := HLL.out
 have K := Lib.hid (hL (.slice Af els.length cf) (t ++ [105, 102, 32] ++ atK (showL exprs) 0 ++ [32] ++ blockT (showB body) ++ [32, 101, 108, 115, 101, 32]) w6 HS6.out.1 (HTV.out _ _ HS6.out).1 (HTV.out _ _ HS6.out).2.2.2 (by simp only [List.length_append] at hll ⊢; omega))
 clear hll
 clear b6
 go_wp2_with fail
 (with_reducible refine K.out.mono ?_)
 clear K
 rintro e' w7 hp1
 have hr1 := hp1.1
 subst hr1
 have HS7 := Lib.hid (HS6.out.next hp1)
 clear hp1
 go_wp2
 go_end0
 have hfin := HS0.out.trans HS7.out
 refine Stp.puts ?_
 simpa using hfin
theorem choiceW (R : Nat) (T : World → Prop) (hT0 : ∀ w w', T w → Below R w w' → T w') (op : Nat) (text : List Nat) (exprs : List Ex) (body els : List St) (E B F : Value) (place : Nat) (hE : ∀ x ∈ exprs, ExprWr R T x) (hB : BlockWr R T body) (hL : BlockWr R T els) (t : List Nat) (w : World) (hW : Wr R t w) (hI : StI R T exprs body els E B F w) (hlen : (t ++ chT exprs body els).length ≤ 140737488355328) :
  Calls Tryz.prog 178 #[.pointer (some ⟨R, 0, none⟩), .agg #[.int .i64 op, .string (strN text), E, B, F, .int .i64 place]] w (Puts R t (chT exprs body els) w) := by
 by_cases hc : els = []
 ·exact choicen R T hT0 op text exprs body els E B F place hE hB hL hc t w hW hI hlen
 ·exact choicey R T hT0 op text exprs body els E B F place hE hB hL hc t w hW hI hlen
set_option maxHeartbeats 1600000 in
theorem stmt1 {R : Nat} {T : World → Prop} (hT0 : ∀ w w', T w → Below R w w' → T w') (op : Nat) (text : List Nat) (exprs : List Ex) (body els : List St) (place : Nat) (hop : op = 1) (hE : ∀ x ∈ exprs, ExprWr R T x) (hB : BlockWr R T body) (hL : BlockWr R T els) : StmtOk R T (.mk op text exprs body els place) := by
 intro k t w hW hT hVe hVb hVf hlen
 obtain ⟨E, B, F⟩ := k
 have hI : StI R T exprs body els E B F w := ⟨hT, hVe, hVb, hVf⟩
 obtain ⟨Ae, ce, rfl⟩ := exsC_slice hI.2.1
 obtain ⟨Ab, cb, rfl⟩ := stsC_sl hI.2.2.1
 obtain ⟨Af, cf, rfl⟩ := stsC_sl hI.2.2.2
 have hsh : showS (.mk op text exprs body els place) = [108, 101, 116, 32] ++ setT text (showL exprs) ++ [59] := by
  rw [showS_eq]
  subst hop
  rfl
 rw [hsh] at hlen ⊢
 have q1 : (((op : Nat) : Int) == 1) = true := by rw [hop]; rfl
 clear hsh hop hT hVe hVb hVf 
 change Calls Tryz.prog 138 #[.pointer (some ⟨R, 0, none⟩), .agg #[.int .i64 op, .string (strN text), (.slice Ae exprs.length ce), (.slice Ab body.length cb), (.slice Af els.length cf), .int .i64 place]] w _
 have hlR := hW.lt
 have S0 := Stp.alloc hW (stBox op text (.slice Ae exprs.length ce) (.slice Ab body.length cb) (.slice Af els.length cf) place)
 have HB := Lib.hid (heap_alloc_new w (stBox op text (.slice Ae exprs.length ce) (.slice Ab body.length cb) (.slice Af els.length cf) place))
 have hI1 := hI.kept hT0 S0.2.1
 have HTV : Hid (∀ u w', Stp R (w.alloc (stBox op text (.slice Ae exprs.length ce) (.slice Ab body.length cb) (.slice Af els.length cf) place)) u w' → StI R T exprs body els (.slice Ae exprs.length ce) (.slice Ab body.length cb) (.slice Af els.length cf) w') := fun u w' h => hI1.kept hT0 h.2.1
 have HS0 := Lib.hid S0
 have hll := hlen
 simp only [List.length_append] at hll
 have HLL := Lib.hid hll
 have K := Lib.hid (put1z R ⟨#[108, 101, 116, 32]⟩ [108, 101, 116, 32] (t) (w.alloc (stBox op text (.slice Ae exprs.length ce) (.slice Ab body.length cb) (.slice Af els.length cf) place)) S0.1 (by kernel_rfl) (by simp only [List.length_append] at hll ⊢; omega) (w.heap.size + 1) (by simp))
 clear S0 hI1 hI hW hlen hll
 unfold stBox at *
 go_enter Tryz.func138, Tryz.ntmps138
 go_wp2_with fail
 generalize w.alloc (.cells #[.int .i64 op, .string (strN text), (.slice Ae exprs.length ce), (.slice Ab body.length cb), (.slice Af els.length cf), .int .i64 place] 145) = w1 at *
 (with_reducible refine K.out.mono ?_)
 clear K
 rintro e' w2 hp1
 have hr1 := hp1.1
 subst hr1
 have HS2 := Lib.hid ((Stp.start HS0.out.1).next hp1)
 clear hp1
 have b2 := HS2.out.block HB.out (by omega) (by decide)
 have hll := HLL.out
 have K := Lib.hid (assign R T hT0 op text exprs body els (.slice Ae exprs.length ce) (.slice Ab body.length cb) (.slice Af els.length cf) place hE (t ++ [108, 101, 116, 32]) w2 HS2.out.1 (HTV.out _ _ HS2.out) (by simp only [List.length_append] at hll ⊢; omega))
 clear hll
 have HR2 := Lib.hid (range_of (cs := [.int .i64 op, .string (strN text), (.slice Ae exprs.length ce), (.slice Ab body.length cb), (.slice Af els.length cf), .int .i64 place]) b2)
 clear b2
 go_wp2_with (refine wpList_load_mid rfl 145 (.tmp 3) rfl w.heap.size 0 rfl [.int .i64 op, .string (strN text), (.slice Ae exprs.length ce), (.slice Ab body.length cb), (.slice Af els.length cf), .int .i64 place] _ HR2.out Tryz.underlying145 rfl info43s ?_; refine Hid.out ?_)
 refine Lib.hid ?_
 go_wp2_with fail
 (with_reducible refine K.out.mono ?_)
 clear K
 rintro e' w3 hp1
 have hr1 := hp1.1
 subst hr1
 have HS3 := Lib.hid (HS2.out.next hp1)
 clear hp1
 have hll := HLL.out
 have K := Lib.hid (put1z R ⟨#[59]⟩ [59] (t ++ [108, 101, 116, 32] ++ setT text (showL exprs)) w3 HS3.out.1 (by kernel_rfl) (by simp only [List.length_append] at hll ⊢; omega) w3.heap.size rfl)
 clear hll
 go_wp2_with fail
 (with_reducible refine K.out.mono ?_)
 clear K
 rintro e' w4 hp1
 have hr1 := hp1.1
 subst hr1
 have HS4 := Lib.hid (HS3.out.next hp1)
 clear hp1
 go_wp2
 go_end0
 have hfin := HS0.out.trans HS4.out
 refine Stp.puts ?_
 simpa using hfin
set_option maxHeartbeats 1600000 in
theorem stmt2 {R : Nat} {T : World → Prop} (hT0 : ∀ w w', T w → Below R w w' → T w') (op : Nat) (text : List Nat) (exprs : List Ex) (body els : List St) (place : Nat) (hop : op = 2) (hE : ∀ x ∈ exprs, ExprWr R T x) (hB : BlockWr R T body) (hL : BlockWr R T els) : StmtOk R T (.mk op text exprs body els place) := by
 intro k t w hW hT hVe hVb hVf hlen
 obtain ⟨E, B, F⟩ := k
 have hI : StI R T exprs body els E B F w := ⟨hT, hVe, hVb, hVf⟩
 obtain ⟨Ae, ce, rfl⟩ := exsC_slice hI.2.1
 obtain ⟨Ab, cb, rfl⟩ := stsC_sl hI.2.2.1
 obtain ⟨Af, cf, rfl⟩ := stsC_sl hI.2.2.2
 have hsh : showS (.mk op text exprs body els place) = setT text (showL exprs) ++ [59] := by
  rw [showS_eq]
  subst hop
  rfl
 rw [hsh] at hlen ⊢
 have q1 : (((op : Nat) : Int) == 1) = false := by rw [hop]; rfl
 have q2 : (((op : Nat) : Int) == 2) = true := by rw [hop]; rfl
 clear hsh hop hT hVe hVb hVf 
 change Calls Tryz.prog 138 #[.pointer (some ⟨R, 0, none⟩), .agg #[.int .i64 op, .string (strN text), (.slice Ae exprs.length ce), (.slice Ab body.length cb), (.slice Af els.length cf), .int .i64 place]] w _
 have hlR := hW.lt
 have S0 := Stp.alloc hW (stBox op text (.slice Ae exprs.length ce) (.slice Ab body.length cb) (.slice Af els.length cf) place)
 have HB := Lib.hid (heap_alloc_new w (stBox op text (.slice Ae exprs.length ce) (.slice Ab body.length cb) (.slice Af els.length cf) place))
 have hI1 := hI.kept hT0 S0.2.1
 have HTV : Hid (∀ u w', Stp R (w.alloc (stBox op text (.slice Ae exprs.length ce) (.slice Ab body.length cb) (.slice Af els.length cf) place)) u w' → StI R T exprs body els (.slice Ae exprs.length ce) (.slice Ab body.length cb) (.slice Af els.length cf) w') := fun u w' h => hI1.kept hT0 h.2.1
 have HS0 := Lib.hid S0
 have hll := hlen
 simp only [List.length_append] at hll
 have HLL := Lib.hid hll
 have K := Lib.hid (assign R T hT0 op text exprs body els (.slice Ae exprs.length ce) (.slice Ab body.length cb) (.slice Af els.length cf) place hE (t) (w.alloc (stBox op text (.slice Ae exprs.length ce) (.slice Ab body.length cb) (.slice Af els.length cf) place)) S0.1 hI1 (by simp only [List.length_append] at hll ⊢; omega))
 clear S0 hI1 hI hW hlen hll
 unfold stBox at *
 go_enter Tryz.func138, Tryz.ntmps138
 go_wp2_with fail
 generalize w.alloc (.cells #[.int .i64 op, .string (strN text), (.slice Ae exprs.length ce), (.slice Ab body.length cb), (.slice Af els.length cf), .int .i64 place] 145) = w1 at *
 (with_reducible refine K.out.mono ?_)
 clear K
 rintro e' w2 hp1
 have hr1 := hp1.1
 subst hr1
 have HS2 := Lib.hid ((Stp.start HS0.out.1).next hp1)
 clear hp1
 have hll := HLL.out
 have K := Lib.hid (put1z R ⟨#[59]⟩ [59] (t ++ setT text (showL exprs)) w2 HS2.out.1 (by kernel_rfl) (by simp only [List.length_append] at hll ⊢; omega) w2.heap.size rfl)
 clear hll
 go_wp2_with fail
 (with_reducible refine K.out.mono ?_)
 clear K
 rintro e' w3 hp1
 have hr1 := hp1.1
 subst hr1
 have HS3 := Lib.hid (HS2.out.next hp1)
 clear hp1
 go_wp2
 go_end0
 have hfin := HS0.out.trans HS3.out
 refine Stp.puts ?_
 simpa using hfin
set_option maxHeartbeats 1600000 in
theorem stmt3 {R : Nat} {T : World → Prop} (hT0 : ∀ w w', T w → Below R w w' → T w') (op : Nat) (text : List Nat) (exprs : List Ex) (body els : List St) (place : Nat) (hop : op = 3) (hE : ∀ x ∈ exprs, ExprWr R T x) (hB : BlockWr R T body) (hL : BlockWr R T els) : StmtOk R T (.mk op text exprs body els place) := by
 intro k t w hW hT hVe hVb hVf hlen
 obtain ⟨E, B, F⟩ := k
 have hI : StI R T exprs body els E B F w := ⟨hT, hVe, hVb, hVf⟩
 obtain ⟨Ae, ce, rfl⟩ := exsC_slice hI.2.1
 obtain ⟨Ab, cb, rfl⟩ := stsC_sl hI.2.2.1
 obtain ⟨Af, cf, rfl⟩ := stsC_sl hI.2.2.2
 have hsh : showS (.mk op text exprs body els place) = chT exprs body els := by
  rw [showS_eq]
  subst hop
  rfl
 rw [hsh] at hlen ⊢
 have q1 : (((op : Nat) : Int) == 1) = false := by rw [hop]; rfl
 have q2 : (((op : Nat) : Int) == 2) = false := by rw [hop]; rfl
 have q3 : (((op : Nat) : Int) == 3) = true := by rw [hop]; rfl
 clear hsh hop hT hVe hVb hVf 
 change Calls Tryz.prog 138 #[.pointer (some ⟨R, 0, none⟩), .agg #[.int .i64 op, .string (strN text), (.slice Ae exprs.length ce), (.slice Ab body.length cb), (.slice Af els.length cf), .int .i64 place]] w _
 have hlR := hW.lt
 have S0 := Stp.alloc hW (stBox op text (.slice Ae exprs.length ce) (.slice Ab body.length cb) (.slice Af els.length cf) place)
 have HB := Lib.hid (heap_alloc_new w (stBox op text (.slice Ae exprs.length ce) (.slice Ab body.length cb) (.slice Af els.length cf) place))
 have hI1 := hI.kept hT0 S0.2.1
 have HTV : Hid (∀ u w', Stp R (w.alloc (stBox op text (.slice Ae exprs.length ce) (.slice Ab body.length cb) (.slice Af els.length cf) place)) u w' → StI R T exprs body els (.slice Ae exprs.length ce) (.slice Ab body.length cb) (.slice Af els.length cf) w') := fun u w' h => hI1.kept hT0 h.2.1
 have HS0 := Lib.hid S0
 have hll := hlen
 simp only [List.length_append] at hll
 have HLL := Lib.hid hll
 have K := Lib.hid (choiceW R T hT0 op text exprs body els (.slice Ae exprs.length ce) (.slice Ab body.length cb) (.slice Af els.length cf) place hE hB hL (t) (w.alloc (stBox op text (.slice Ae exprs.length ce) (.slice Ab body.length cb) (.slice Af els.length cf) place)) S0.1 hI1 (by simp only [List.length_append] at hll ⊢; omega))
 clear S0 hI1 hI hW hlen hll
 unfold stBox at *
 go_enter Tryz.func138, Tryz.ntmps138
 go_wp2_with fail
 generalize w.alloc (.cells #[.int .i64 op, .string (strN text), (.slice Ae exprs.length ce), (.slice Ab body.length cb), (.slice Af els.length cf), .int .i64 place] 145) = w1 at *
 (with_reducible refine K.out.mono ?_)
 clear K
 rintro e' w2 hp1
 have hr1 := hp1.1
 subst hr1
 have HS2 := Lib.hid ((Stp.start HS0.out.1).next hp1)
 clear hp1
 go_wp2
 go_end0
 have hfin := HS0.out.trans HS2.out
 refine Stp.puts ?_
 simpa using hfin
set_option maxHeartbeats 1600000 in
theorem stmt4 {R : Nat} {T : World → Prop} (hT0 : ∀ w w', T w → Below R w w' → T w') (op : Nat) (text : List Nat) (exprs : List Ex) (body els : List St) (place : Nat) (hop : op = 4) (hE : ∀ x ∈ exprs, ExprWr R T x) (hB : BlockWr R T body) (hL : BlockWr R T els) : StmtOk R T (.mk op text exprs body els place) := by
 intro k t w hW hT hVe hVb hVf hlen
 obtain ⟨E, B, F⟩ := k
 have hI : StI R T exprs body els E B F w := ⟨hT, hVe, hVb, hVf⟩
 obtain ⟨Ae, ce, rfl⟩ := exsC_slice hI.2.1
 obtain ⟨Ab, cb, rfl⟩ := stsC_sl hI.2.2.1
 obtain ⟨Af, cf, rfl⟩ := stsC_sl hI.2.2.2
 have hsh : showS (.mk op text exprs body els place) = [102, 111, 114, 32] ++ setT text (showL exprs) ++ [32, 116, 111, 32] ++ atK (showL exprs) 1 ++ [32] ++ blockT (showB body) := by
  rw [showS_eq]
  subst hop
  rfl
 rw [hsh] at hlen ⊢
 have q1 : (((op : Nat) : Int) == 1) = false := by rw [hop]; rfl
 have q2 : (((op : Nat) : Int) == 2) = false := by rw [hop]; rfl
 have q3 : (((op : Nat) : Int) == 3) = false := by rw [hop]; rfl
 have q4 : (((op : Nat) : Int) == 4) = true := by rw [hop]; rfl
 clear hsh hop hT hVe hVb hVf 
 change Calls Tryz.prog 138 #[.pointer (some ⟨R, 0, none⟩), .agg #[.int .i64 op, .string (strN text), (.slice Ae exprs.length ce), (.slice Ab body.length cb), (.slice Af els.length cf), .int .i64 place]] w _
 have hlR := hW.lt
 have S0 := Stp.alloc hW (stBox op text (.slice Ae exprs.length ce) (.slice Ab body.length cb) (.slice Af els.length cf) place)
 have HB := Lib.hid (heap_alloc_new w (stBox op text (.slice Ae exprs.length ce) (.slice Ab body.length cb) (.slice Af els.length cf) place))
 have hI1 := hI.kept hT0 S0.2.1
 have HTV : Hid (∀ u w', Stp R (w.alloc (stBox op text (.slice Ae exprs.length ce) (.slice Ab body.length cb) (.slice Af els.length cf) place)) u w' → StI R T exprs body els (.slice Ae exprs.length ce) (.slice Ab body.length cb) (.slice Af els.length cf) w') := fun u w' h => hI1.kept hT0 h.2.1
 have HS0 := Lib.hid S0
 have hll := hlen
 simp only [List.length_append] at hll
 have HLL := Lib.hid hll
 have K := Lib.hid (put1z R ⟨#[102, 111, 114, 32]⟩ [102, 111, 114, 32] (t) (w.alloc (stBox op text (.slice Ae exprs.length ce) (.slice Ab body.length cb) (.slice Af els.length cf) place)) S0.1 (by kernel_rfl) (by simp only [List.length_append] at hll ⊢; omega) (w.heap.size + 1) (by simp))
 clear S0 hI1 hI hW hlen hll
 unfold stBox at *
 go_enter Tryz.func138, Tryz.ntmps138
 go_wp2_with fail
 generalize w.alloc (.cells #[.int .i64 op, .string (strN text), (.slice Ae exprs.length ce), (.slice Ab body.length cb), (.slice Af els.length cf), .int .i64 place] 145) = w1 at *
 (with_reducible refine K.out.mono ?_)
 clear K
 rintro e' w2 hp1
 have hr1 := hp1.1
 subst hr1
 have HS2 := Lib.hid ((Stp.start HS0.out.1).next hp1)
 clear hp1
 have b2 := HS2.out.block HB.out (by omega) (by decide)
 have hll := HLL.out
 have K := Lib.hid (assign R T hT0 op text exprs body els (.slice Ae exprs.length ce) (.slice Ab body.length cb) (.slice Af els.length cf) place hE (t ++ [102, 111, 114, 32]) w2 HS2.out.1 (HTV.out _ _ HS2.out) (by simp only [List.length_append] at hll ⊢; omega))
 clear hll
 have HR2 := Lib.hid (range_of (cs := [.int .i64 op, .string (strN text), (.slice Ae exprs.length ce), (.slice Ab body.length cb), (.slice Af els.length cf), .int .i64 place]) b2)
 clear b2
 go_wp2_with (refine wpList_load_mid rfl 145 (.tmp 3) rfl w.heap.size 0 rfl [.int .i64 op, .string (strN text), (.slice Ae exprs.length ce), (.slice Ab body.length cb), (.slice Af els.length cf), .int .i64 place] _ HR2.out Tryz.underlying145 rfl info43s ?_; refine Hid.out ?_)
 refine Lib.hid ?_
 go_wp2_with fail
 (with_reducible refine K.out.mono ?_)
 clear K
 rintro e' w3 hp1
 have hr1 := hp1.1
 subst hr1
 have HS3 := Lib.hid (HS2.out.next hp1)
 clear hp1
 have hll := HLL.out
 have K := Lib.hid (put1z R ⟨#[32, 116, 111, 32]⟩ [32, 116, 111, 32] (t ++ [102, 111, 114, 32] ++ setT text (showL exprs)) w3 HS3.out.1 (by kernel_rfl) (by simp only [List.length_append] at hll ⊢; omega) w3.heap.size rfl)
 clear hll
 go_wp2_with fail
 (with_reducible refine K.out.mono ?_)
 clear K
 rintro e' w4 hp1
 have hr1 := hp1.1
 subst hr1
 have HS4 := Lib.hid (HS3.out.next hp1)
 clear hp1
 have b4 := HS4.out.block HB.out (by omega) (by decide)
 have c2 : w4.cell? ⟨w.heap.size, 2, none⟩ = some ((.slice Ae exprs.length ce)) := by rw [Lib.cell_of_heap b4]; rfl
 have hll := HLL.out
 have K := Lib.hid (exprAtz R T exprs hE (.slice Ae exprs.length ce) 1 1 rfl (t ++ [102, 111, 114, 32] ++ setT text (showL exprs) ++ [32, 116, 111, 32]) w4 HS4.out.1 (HTV.out _ _ HS4.out).1 (HTV.out _ _ HS4.out).2.1 (by simp only [List.length_append] at hll ⊢; omega))
 clear hll
 clear b4
 go_wp2_with fail
 (with_reducible refine K.out.mono ?_)
 clear K
 rintro e' w5 hp1
 have hr1 := hp1.1
 subst hr1
 have HS5 := Lib.hid (HS4.out.next hp1)
 clear hp1
 have hll := HLL.out
 have K := Lib.hid (put1z R ⟨#[32]⟩ [32] (t ++ [102, 111, 114, 32] ++ setT text (showL exprs) ++ [32, 116, 111, 32] ++ atK (showL exprs) 1) w5 HS5.out.1 (by kernel_rfl) (by simp only [List.length_append] at hll ⊢; omega) w5.heap.size rfl)
 clear hll
 go_wp2_with fail
 (with_reducible refine K.out.mono ?_)
 clear K
 rintro e' w6 hp1
 have hr1 := hp1.1
 subst hr1
 have HS6 := Lib.hid (HS5.out.next hp1)
 clear hp1
 have b6 := HS6.out.block HB.out (by omega) (by decide)
 have c3 : w6.cell? ⟨w.heap.size, 3, none⟩ = some ((.slice Ab body.length cb)) := by rw [Lib.cell_of_heap b6]; rfl
 have hll := HLL.out
 have K := Lib.hid (hB (.slice Ab body.length cb) (t ++ [102, 111, 114, 32] ++ setT text (showL exprs) ++ [32, 116, 111, 32] ++ atK (showL exprs) 1 ++ [32]) w6 HS6.out.1 (HTV.out _ _ HS6.out).1 (HTV.out _ _ HS6.out).2.2.1 (by simp only [List.length_append] at hll ⊢; omega))
 clear hll
 clear b6
 go_wp2_with fail
 (with_reducible refine K.out.mono ?_)
 clear K
 rintro e' w7 hp1
 have hr1 := hp1.1
 subst hr1
 have HS7 := Lib.hid (HS6.out.next hp1)
 clear hp1
 go_wp2
 go_end0
 have hfin := HS0.out.trans HS7.out
 refine Stp.puts ?_
 simpa using hfin
set_option maxHeartbeats 1600000 in
theorem stmt5n {R : Nat} {T : World → Prop} (hT0 : ∀ w w', T w → Below R w w' → T w') (op : Nat) (text : List Nat) (exprs : List Ex) (body els : List St) (place : Nat) (hop : op = 5) (hc : exprs = []) (hE : ∀ x ∈ exprs, ExprWr R T x) (hB : BlockWr R T body) (hL : BlockWr R T els) : StmtOk R T (.mk op text exprs body els place) := by
 intro k t w hW hT hVe hVb hVf hlen
 obtain ⟨E, B, F⟩ := k
 have hI : StI R T exprs body els E B F w := ⟨hT, hVe, hVb, hVf⟩
 obtain ⟨Ae, ce, rfl⟩ := exsC_slice hI.2.1
 obtain ⟨Ab, cb, rfl⟩ := stsC_sl hI.2.2.1
 obtain ⟨Af, cf, rfl⟩ := stsC_sl hI.2.2.2
 have hsh : showS (.mk op text exprs body els place) = [114, 101, 116, 117, 114, 110] ++ [59] := by
  rw [showS_eq]
  subst hop
  subst hc; rfl
 rw [hsh] at hlen ⊢
 have q1 : (((op : Nat) : Int) == 1) = false := by rw [hop]; rfl
 have q2 : (((op : Nat) : Int) == 2) = false := by rw [hop]; rfl
 have q3 : (((op : Nat) : Int) == 3) = false := by rw [hop]; rfl
 have q4 : (((op : Nat) : Int) == 4) = false := by rw [hop]; rfl
 have q5 : (((op : Nat) : Int) == 5) = true := by rw [hop]; rfl
 have hzz : decide (0 < exprs.length) = false := by rw [hc]; rfl
 clear hsh hop hT hVe hVb hVf hc
 change Calls Tryz.prog 138 #[.pointer (some ⟨R, 0, none⟩), .agg #[.int .i64 op, .string (strN text), (.slice Ae exprs.length ce), (.slice Ab body.length cb), (.slice Af els.length cf), .int .i64 place]] w _
 have hlR := hW.lt
 have S0 := Stp.alloc hW (stBox op text (.slice Ae exprs.length ce) (.slice Ab body.length cb) (.slice Af els.length cf) place)
 have HB := Lib.hid (heap_alloc_new w (stBox op text (.slice Ae exprs.length ce) (.slice Ab body.length cb) (.slice Af els.length cf) place))
 have hI1 := hI.kept hT0 S0.2.1
 have HTV : Hid (∀ u w', Stp R (w.alloc (stBox op text (.slice Ae exprs.length ce) (.slice Ab body.length cb) (.slice Af els.length cf) place)) u w' → StI R T exprs body els (.slice Ae exprs.length ce) (.slice Ab body.length cb) (.slice Af els.length cf) w') := fun u w' h => hI1.kept hT0 h.2.1
 have HS0 := Lib.hid S0
 have hll := hlen
 simp only [List.length_append] at hll
 have HLL := Lib.hid hll
 have K := Lib.hid (put1z R ⟨#[114, 101, 116, 117, 114, 110]⟩ [114, 101, 116, 117, 114, 110] (t) (w.alloc (stBox op text (.slice Ae exprs.length ce) (.slice Ab body.length cb) (.slice Af els.length cf) place)) S0.1 (by kernel_rfl) (by simp only [List.length_append] at hll ⊢; omega) (w.heap.size + 1) (by simp))
 clear S0 hI1 hI hW hlen hll
 unfold stBox at *
 go_enter Tryz.func138, Tryz.ntmps138
 go_wp2_with fail
 generalize w.alloc (.cells #[.int .i64 op, .string (strN text), (.slice Ae exprs.length ce), (.slice Ab body.length cb), (.slice Af els.length cf), .int .i64 place] 145) = w1 at *
 (with_reducible refine K.out.mono ?_)
 clear K
 rintro e' w2 hp1
 have hr1 := hp1.1
 subst hr1
 have HS2 := Lib.hid ((Stp.start HS0.out.1).next hp1)
 clear hp1
 have b2 := HS2.out.block HB.out (by omega) (by decide)
 have c2 : w2.cell? ⟨w.heap.size, 2, none⟩ = some ((.slice Ae exprs.length ce)) := by rw [Lib.cell_of_heap b2]; rfl
 have hll := HLL.out
 have K := Lib.hid (put1z R ⟨#[59]⟩ [59] (t ++ [114, 101, 116, 117, 114, 110]) w2 HS2.out.1 (by kernel_rfl) (by simp only [List.length_append] at hll ⊢; omega) w2.heap.size rfl)
 clear hll
 clear b2
 go_wp2_with fail
 (with_reducible refine K.out.mono ?_)
 clear K
 rintro e' w3 hp1
 have hr1 := hp1.1
 subst hr1
 have HS3 := Lib.hid (HS2.out.next hp1)
 clear hp1
 go_wp2
 go_end0
 have hfin := HS0.out.trans HS3.out
 refine Stp.puts ?_
 simpa using hfin
set_option maxHeartbeats 1600000 in
theorem stmt5y {R : Nat} {T : World → Prop} (hT0 : ∀ w w', T w → Below R w w' → T w') (op : Nat) (text : List Nat) (exprs : List Ex) (body els : List St) (place : Nat) (hop : op = 5) (hc : exprs ≠ []) (hE : ∀ x ∈ exprs, ExprWr R T x) (hB : BlockWr R T body) (hL : BlockWr R T els) : StmtOk R T (.mk op text exprs body els place) := by
 intro k t w hW hT hVe hVb hVf hlen
 obtain ⟨E, B, F⟩ := k
 have hI : StI R T exprs body els E B F w := ⟨hT, hVe, hVb, hVf⟩
 obtain ⟨Ae, ce, rfl⟩ := exsC_slice hI.2.1
 obtain ⟨Ab, cb, rfl⟩ := stsC_sl hI.2.2.1
 obtain ⟨Af, cf, rfl⟩ := stsC_sl hI.2.2.2
 have hsh : showS (.mk op text exprs body els place) = [114, 101, 116, 117, 114, 110] ++ [32] ++ atK (showL exprs) 0 ++ [59] := by
  rw [showS_eq]
  subst hop
  show [114, 101, 116, 117, 114, 110] ++ (if (showL exprs).length = 0 then [] else [32] ++ atK (showL exprs) 0) ++ [59] = _; rw [if_neg (by rw [showL_length]; cases exprs with | nil => exact absurd rfl hc | cons => simp)]; simp
 rw [hsh] at hlen ⊢
 have q1 : (((op : Nat) : Int) == 1) = false := by rw [hop]; rfl
 have q2 : (((op : Nat) : Int) == 2) = false := by rw [hop]; rfl
 have q3 : (((op : Nat) : Int) == 3) = false := by rw [hop]; rfl
 have q4 : (((op : Nat) : Int) == 4) = false := by rw [hop]; rfl
 have q5 : (((op : Nat) : Int) == 5) = true := by rw [hop]; rfl
 have hzz : decide (0 < exprs.length) = true := by cases exprs with | nil => exact absurd rfl hc | cons => simp
 clear hsh hop hT hVe hVb hVf hc
 change Calls Tryz.prog 138 #[.pointer (some ⟨R, 0, none⟩), .agg #[.int .i64 op, .string (strN text), (.slice Ae exprs.length ce), (.slice Ab body.length cb), (.slice Af els.length cf), .int .i64 place]] w _
 have hlR := hW.lt
 have S0 := Stp.alloc hW (stBox op text (.slice Ae exprs.length ce) (.slice Ab body.length cb) (.slice Af els.length cf) place)
 have HB := Lib.hid (heap_alloc_new w (stBox op text (.slice Ae exprs.length ce) (.slice Ab body.length cb) (.slice Af els.length cf) place))
 have hI1 := hI.kept hT0 S0.2.1
 have HTV : Hid (∀ u w', Stp R (w.alloc (stBox op text (.slice Ae exprs.length ce) (.slice Ab body.length cb) (.slice Af els.length cf) place)) u w' → StI R T exprs body els (.slice Ae exprs.length ce) (.slice Ab body.length cb) (.slice Af els.length cf) w') := fun u w' h => hI1.kept hT0 h.2.1
 have HS0 := Lib.hid S0
 have hll := hlen
 simp only [List.length_append] at hll
 have HLL := Lib.hid hll
 have K := Lib.hid (put1z R ⟨#[114, 101, 116, 117, 114, 110]⟩ [114, 101, 116, 117, 114, 110] (t) (w.alloc (stBox op text (.slice Ae exprs.length ce) (.slice Ab body.length cb) (.slice Af els.length cf) place)) S0.1 (by kernel_rfl) (by simp only [List.length_append] at hll ⊢; omega) (w.heap.size + 1) (by simp))
 clear S0 hI1 hI hW hlen hll
 unfold stBox at *
 go_enter Tryz.func138, Tryz.ntmps138
 go_wp2_with fail
 generalize w.alloc (.cells #[.int .i64 op, .string (strN text), (.slice Ae exprs.length ce), (.slice Ab body.length cb), (.slice Af els.length cf), .int .i64 place] 145) = w1 at *
 (with_reducible refine K.out.mono ?_)
 clear K
 rintro e' w2 hp1
 have hr1 := hp1.1
 subst hr1
 have HS2 := Lib.hid ((Stp.start HS0.out.1).next hp1)
 clear hp1
 have b2 := HS2.out.block HB.out (by omega) (by decide)
 have c2 : w2.cell? ⟨w.heap.size, 2, none⟩ = some ((.slice Ae exprs.length ce)) := by rw [Lib.cell_of_heap b2]; rfl
 have hll := HLL.out
 have K := Lib.hid (put1z R ⟨#[32]⟩ [32] (t ++ [114, 101, 116, 117, 114, 110]) w2 HS2.out.1 (by kernel_rfl) (by simp only [List.length_append] at hll ⊢; omega) w2.heap.size rfl)
 clear hll
 clear b2
 go_wp2_with fail
 (with_reducible refine K.out.mono ?_)
 clear K
 rintro e' w3 hp1
 have hr1 := hp1.1
 subst hr1
 have HS3 := Lib.hid (HS2.out.next hp1)
 clear hp1
 have b3 := HS3.out.block HB.out (by omega) (by decide)
 have c2 : w3.cell? ⟨w.heap.size, 2, none⟩ = some ((.slice Ae exprs.length ce)) := by rw [Lib.cell_of_heap b3]; rfl
 have hll := HLL.out
 have K := Lib.hid (exprAtz R T exprs hE (.slice Ae exprs.length ce) 0 0 rfl (t ++ [114, 101, 116, 117, 114, 110] ++ [32]) w3 HS3.out.1 (HTV.out _ _ HS3.out).1 (HTV.out _ _ HS3.out).2.1 (by simp only [List.length_append] at hll ⊢; omega))
 clear hll
 clear b3
 go_wp2_with fail
 (with_reducible refine K.out.mono ?_)
 clear K
 rintro e' w4 hp1
 have hr1 := hp1.1
 subst hr1
 have HS4 := Lib.hid (HS3.out.next hp1)
 clear hp1
 have hll := HLL.out
 have K := Lib.hid (put1z R ⟨#[59]⟩ [59] (t ++ [114, 101, 116, 117, 114, 110] ++ [32] ++ atK (showL exprs) 0) w4 HS4.out.1 (by kernel_rfl) (by simp only [List.length_append] at hll ⊢; omega) w4.heap.size rfl)
 clear hll
 go_wp2_with fail
 (with_reducible refine K.out.mono ?_)
 clear K
 rintro e' w5 hp1
 have hr1 := hp1.1
 subst hr1
 have HS5 := Lib.hid (HS4.out.next hp1)
 clear hp1
 go_wp2
 go_end0
 have hfin := HS0.out.trans HS5.out
 refine Stp.puts ?_
 simpa using hfin
set_option maxHeartbeats 1600000 in
theorem stmt6 {R : Nat} {T : World → Prop} (hT0 : ∀ w w', T w → Below R w w' → T w') (op : Nat) (text : List Nat) (exprs : List Ex) (body els : List St) (place : Nat) (hop : op = 6) (hE : ∀ x ∈ exprs, ExprWr R T x) (hB : BlockWr R T body) (hL : BlockWr R T els) : StmtOk R T (.mk op text exprs body els place) := by
 intro k t w hW hT hVe hVb hVf hlen
 obtain ⟨E, B, F⟩ := k
 have hI : StI R T exprs body els E B F w := ⟨hT, hVe, hVb, hVf⟩
 obtain ⟨Ae, ce, rfl⟩ := exsC_slice hI.2.1
 obtain ⟨Ab, cb, rfl⟩ := stsC_sl hI.2.2.1
 obtain ⟨Af, cf, rfl⟩ := stsC_sl hI.2.2.2
 have hsh : showS (.mk op text exprs body els place) = opT [112, 117, 116] 2 (showL exprs) ++ [59] := by
  rw [showS_eq]
  subst hop
  rfl
 rw [hsh] at hlen ⊢
 have q1 : (((op : Nat) : Int) == 1) = false := by rw [hop]; rfl
 have q2 : (((op : Nat) : Int) == 2) = false := by rw [hop]; rfl
 have q3 : (((op : Nat) : Int) == 3) = false := by rw [hop]; rfl
 have q4 : (((op : Nat) : Int) == 4) = false := by rw [hop]; rfl
 have q5 : (((op : Nat) : Int) == 5) = false := by rw [hop]; rfl
 have q6 : (((op : Nat) : Int) == 6) = true := by rw [hop]; rfl
 clear hsh hop hT hVe hVb hVf 
 change Calls Tryz.prog 138 #[.pointer (some ⟨R, 0, none⟩), .agg #[.int .i64 op, .string (strN text), (.slice Ae exprs.length ce), (.slice Ab body.length cb), (.slice Af els.length cf), .int .i64 place]] w _
 have hlR := hW.lt
 have S0 := Stp.alloc hW (stBox op text (.slice Ae exprs.length ce) (.slice Ab body.length cb) (.slice Af els.length cf) place)
 have HB := Lib.hid (heap_alloc_new w (stBox op text (.slice Ae exprs.length ce) (.slice Ab body.length cb) (.slice Af els.length cf) place))
 have hI1 := hI.kept hT0 S0.2.1
 have HTV : Hid (∀ u w', Stp R (w.alloc (stBox op text (.slice Ae exprs.length ce) (.slice Ab body.length cb) (.slice Af els.length cf) place)) u w' → StI R T exprs body els (.slice Ae exprs.length ce) (.slice Ab body.length cb) (.slice Af els.length cf) w') := fun u w' h => hI1.kept hT0 h.2.1
 have HS0 := Lib.hid S0
 have hll := hlen
 simp only [List.length_append] at hll
 have HLL := Lib.hid hll
 have K := Lib.hid (operationz R T hT0 exprs hE (.slice Ae exprs.length ce) ⟨#[112, 117, 116]⟩ [112, 117, 116] (by kernel_rfl) 2 2 rfl (t) (w.alloc (stBox op text (.slice Ae exprs.length ce) (.slice Ab body.length cb) (.slice Af els.length cf) place)) S0.1 hI1.1 hI1.2.1 (by simp only [List.length_append] at hll ⊢; omega))
 clear S0 hI1 hI hW hlen hll
 unfold stBox at *
 go_enter Tryz.func138, Tryz.ntmps138
 go_wp2_with fail
 generalize w.alloc (.cells #[.int .i64 op, .string (strN text), (.slice Ae exprs.length ce), (.slice Ab body.length cb), (.slice Af els.length cf), .int .i64 place] 145) = w1 at *
 (with_reducible refine K.out.mono ?_)
 clear K
 rintro e' w2 hp1
 have hr1 := hp1.1
 subst hr1
 have HS2 := Lib.hid ((Stp.start HS0.out.1).next hp1)
 clear hp1
 have hll := HLL.out
 have K := Lib.hid (put1z R ⟨#[59]⟩ [59] (t ++ opT [112, 117, 116] 2 (showL exprs)) w2 HS2.out.1 (by kernel_rfl) (by simp only [List.length_append] at hll ⊢; omega) w2.heap.size rfl)
 clear hll
 go_wp2_with fail
 (with_reducible refine K.out.mono ?_)
 clear K
 rintro e' w3 hp1
 have hr1 := hp1.1
 subst hr1
 have HS3 := Lib.hid (HS2.out.next hp1)
 clear hp1
 go_wp2
 go_end0
 have hfin := HS0.out.trans HS3.out
 refine Stp.puts ?_
 simpa using hfin
set_option maxHeartbeats 1600000 in
theorem stmt7 {R : Nat} {T : World → Prop} (hT0 : ∀ w w', T w → Below R w w' → T w') (op : Nat) (text : List Nat) (exprs : List Ex) (body els : List St) (place : Nat) (hop : op = 7) (hE : ∀ x ∈ exprs, ExprWr R T x) (hB : BlockWr R T body) (hL : BlockWr R T els) : StmtOk R T (.mk op text exprs body els place) := by
 intro k t w hW hT hVe hVb hVf hlen
 obtain ⟨E, B, F⟩ := k
 have hI : StI R T exprs body els E B F w := ⟨hT, hVe, hVb, hVf⟩
 obtain ⟨Ae, ce, rfl⟩ := exsC_slice hI.2.1
 obtain ⟨Ab, cb, rfl⟩ := stsC_sl hI.2.2.1
 obtain ⟨Af, cf, rfl⟩ := stsC_sl hI.2.2.2
 have hsh : showS (.mk op text exprs body els place) = opT [100, 101, 108] 1 (showL exprs) ++ [59] := by
  rw [showS_eq]
  subst hop
  rfl
 rw [hsh] at hlen ⊢
 have q1 : (((op : Nat) : Int) == 1) = false := by rw [hop]; rfl
 have q2 : (((op : Nat) : Int) == 2) = false := by rw [hop]; rfl
 have q3 : (((op : Nat) : Int) == 3) = false := by rw [hop]; rfl
 have q4 : (((op : Nat) : Int) == 4) = false := by rw [hop]; rfl
 have q5 : (((op : Nat) : Int) == 5) = false := by rw [hop]; rfl
 have q6 : (((op : Nat) : Int) == 6) = false := by rw [hop]; rfl
 have q7 : (((op : Nat) : Int) == 7) = true := by rw [hop]; rfl
 clear hsh hop hT hVe hVb hVf 
 change Calls Tryz.prog 138 #[.pointer (some ⟨R, 0, none⟩), .agg #[.int .i64 op, .string (strN text), (.slice Ae exprs.length ce), (.slice Ab body.length cb), (.slice Af els.length cf), .int .i64 place]] w _
 have hlR := hW.lt
 have S0 := Stp.alloc hW (stBox op text (.slice Ae exprs.length ce) (.slice Ab body.length cb) (.slice Af els.length cf) place)
 have HB := Lib.hid (heap_alloc_new w (stBox op text (.slice Ae exprs.length ce) (.slice Ab body.length cb) (.slice Af els.length cf) place))
 have hI1 := hI.kept hT0 S0.2.1
 have HTV : Hid (∀ u w', Stp R (w.alloc (stBox op text (.slice Ae exprs.length ce) (.slice Ab body.length cb) (.slice Af els.length cf) place)) u w' → StI R T exprs body els (.slice Ae exprs.length ce) (.slice Ab body.length cb) (.slice Af els.length cf) w') := fun u w' h => hI1.kept hT0 h.2.1
 have HS0 := Lib.hid S0
 have hll := hlen
 simp only [List.length_append] at hll
 have HLL := Lib.hid hll
 have K := Lib.hid (operationz R T hT0 exprs hE (.slice Ae exprs.length ce) ⟨#[100, 101, 108]⟩ [100, 101, 108] (by kernel_rfl) 1 1 rfl (t) (w.alloc (stBox op text (.slice Ae exprs.length ce) (.slice Ab body.length cb) (.slice Af els.length cf) place)) S0.1 hI1.1 hI1.2.1 (by simp only [List.length_append] at hll ⊢; omega))
 clear S0 hI1 hI hW hlen hll
 unfold stBox at *
 go_enter Tryz.func138, Tryz.ntmps138
 go_wp2_with fail
 generalize w.alloc (.cells #[.int .i64 op, .string (strN text), (.slice Ae exprs.length ce), (.slice Ab body.length cb), (.slice Af els.length cf), .int .i64 place] 145) = w1 at *
 (with_reducible refine K.out.mono ?_)
 clear K
 rintro e' w2 hp1
 have hr1 := hp1.1
 subst hr1
 have HS2 := Lib.hid ((Stp.start HS0.out.1).next hp1)
 clear hp1
 have hll := HLL.out
 have K := Lib.hid (put1z R ⟨#[59]⟩ [59] (t ++ opT [100, 101, 108] 1 (showL exprs)) w2 HS2.out.1 (by kernel_rfl) (by simp only [List.length_append] at hll ⊢; omega) w2.heap.size rfl)
 clear hll
 go_wp2_with fail
 (with_reducible refine K.out.mono ?_)
 clear K
 rintro e' w3 hp1
 have hr1 := hp1.1
 subst hr1
 have HS3 := Lib.hid (HS2.out.next hp1)
 clear hp1
 go_wp2
 go_end0
 have hfin := HS0.out.trans HS3.out
 refine Stp.puts ?_
 simpa using hfin
set_option maxHeartbeats 1600000 in
theorem stmt8 {R : Nat} {T : World → Prop} (hT0 : ∀ w w', T w → Below R w w' → T w') (op : Nat) (text : List Nat) (exprs : List Ex) (body els : List St) (place : Nat) (hop : op = 8) (hE : ∀ x ∈ exprs, ExprWr R T x) (hB : BlockWr R T body) (hL : BlockWr R T els) : StmtOk R T (.mk op text exprs body els place) := by
 intro k t w hW hT hVe hVb hVf hlen
 obtain ⟨E, B, F⟩ := k
 have hI : StI R T exprs body els E B F w := ⟨hT, hVe, hVb, hVf⟩
 obtain ⟨Ae, ce, rfl⟩ := exsC_slice hI.2.1
 obtain ⟨Ab, cb, rfl⟩ := stsC_sl hI.2.2.1
 obtain ⟨Af, cf, rfl⟩ := stsC_sl hI.2.2.2
 have hsh : showS (.mk op text exprs body els place) = atK (showL exprs) 0 ++ [59] := by
  rw [showS_eq]
  subst hop
  rfl
 rw [hsh] at hlen ⊢
 have q1 : (((op : Nat) : Int) == 1) = false := by rw [hop]; rfl
 have q2 : (((op : Nat) : Int) == 2) = false := by rw [hop]; rfl
 have q3 : (((op : Nat) : Int) == 3) = false := by rw [hop]; rfl
 have q4 : (((op : Nat) : Int) == 4) = false := by rw [hop]; rfl
 have q5 : (((op : Nat) : Int) == 5) = false := by rw [hop]; rfl
 have q6 : (((op : Nat) : Int) == 6) = false := by rw [hop]; rfl
 have q7 : (((op : Nat) : Int) == 7) = false := by rw [hop]; rfl
 have q8 : (((op : Nat) : Int) == 8) = true := by rw [hop]; rfl
 clear hsh hop hT hVe hVb hVf 
 change Calls Tryz.prog 138 #[.pointer (some ⟨R, 0, none⟩), .agg #[.int .i64 op, .string (strN text), (.slice Ae exprs.length ce), (.slice Ab body.length cb), (.slice Af els.length cf), .int .i64 place]] w _
 have hlR := hW.lt
 have S0 := Stp.alloc hW (stBox op text (.slice Ae exprs.length ce) (.slice Ab body.length cb) (.slice Af els.length cf) place)
 have HB := Lib.hid (heap_alloc_new w (stBox op text (.slice Ae exprs.length ce) (.slice Ab body.length cb) (.slice Af els.length cf) place))
 have hI1 := hI.kept hT0 S0.2.1
 have HTV : Hid (∀ u w', Stp R (w.alloc (stBox op text (.slice Ae exprs.length ce) (.slice Ab body.length cb) (.slice Af els.length cf) place)) u w' → StI R T exprs body els (.slice Ae exprs.length ce) (.slice Ab body.length cb) (.slice Af els.length cf) w') := fun u w' h => hI1.kept hT0 h.2.1
 have HS0 := Lib.hid S0
 have hll := hlen
 simp only [List.length_append] at hll
 have HLL := Lib.hid hll
 have K := Lib.hid (exprAtz R T exprs hE (.slice Ae exprs.length ce) 0 0 rfl (t) (w.alloc (stBox op text (.slice Ae exprs.length ce) (.slice Ab body.length cb) (.slice Af els.length cf) place)) S0.1 hI1.1 hI1.2.1 (by simp only [List.length_append] at hll ⊢; omega))
 clear S0 hI1 hI hW hlen hll
 unfold stBox at *
 go_enter Tryz.func138, Tryz.ntmps138
 go_wp2_with fail
 generalize w.alloc (.cells #[.int .i64 op, .string (strN text), (.slice Ae exprs.length ce), (.slice Ab body.length cb), (.slice Af els.length cf), .int .i64 place] 145) = w1 at *
 (with_reducible refine K.out.mono ?_)
 clear K
 rintro e' w2 hp1
 have hr1 := hp1.1
 subst hr1
 have HS2 := Lib.hid ((Stp.start HS0.out.1).next hp1)
 clear hp1
 have hll := HLL.out
 have K := Lib.hid (put1z R ⟨#[59]⟩ [59] (t ++ atK (showL exprs) 0) w2 HS2.out.1 (by kernel_rfl) (by simp only [List.length_append] at hll ⊢; omega) w2.heap.size rfl)
 clear hll
 go_wp2_with fail
 (with_reducible refine K.out.mono ?_)
 clear K
 rintro e' w3 hp1
 have hr1 := hp1.1
 subst hr1
 have HS3 := Lib.hid (HS2.out.next hp1)
 clear hp1
 go_wp2
 go_end0
 have hfin := HS0.out.trans HS3.out
 refine Stp.puts ?_
 simpa using hfin
set_option maxHeartbeats 1600000 in
theorem stmt0 {R : Nat} {T : World → Prop} (op : Nat) (text : List Nat) (exprs : List Ex) (body els : List St) (place : Nat) (hop : op = 0 ∨ 8 < op) : StmtOk R T (.mk op text exprs body els place) := by
 intro k t w hW hT hVe hVb hVf hlen
 obtain ⟨E, B, F⟩ := k
 have hI : StI R T exprs body els E B F w := ⟨hT, hVe, hVb, hVf⟩
 obtain ⟨Ae, ce, rfl⟩ := exsC_slice hI.2.1
 obtain ⟨Ab, cb, rfl⟩ := stsC_sl hI.2.2.1
 obtain ⟨Af, cf, rfl⟩ := stsC_sl hI.2.2.2
 have hsh : showS (.mk op text exprs body els place) = [] := by
  rw [showS_eq]
  show showSt op text (showL exprs) _ _ _ = _
  unfold showSt
  rw [if_neg (by omega), if_neg (by omega), if_neg (by omega), if_neg (by omega), if_neg (by omega), if_neg (by omega), if_neg (by omega), if_neg (by omega)]
 rw [hsh] at hlen ⊢
 have q1 : (((op : Nat) : Int) == 1) = false := by rw [beq_eq_false_iff_ne]; omega
 have q2 : (((op : Nat) : Int) == 2) = false := by rw [beq_eq_false_iff_ne]; omega
 have q3 : (((op : Nat) : Int) == 3) = false := by rw [beq_eq_false_iff_ne]; omega
 have q4 : (((op : Nat) : Int) == 4) = false := by rw [beq_eq_false_iff_ne]; omega
 have q5 : (((op : Nat) : Int) == 5) = false := by rw [beq_eq_false_iff_ne]; omega
 have q6 : (((op : Nat) : Int) == 6) = false := by rw [beq_eq_false_iff_ne]; omega
 have q7 : (((op : Nat) : Int) == 7) = false := by rw [beq_eq_false_iff_ne]; omega
 have q8 : (((op : Nat) : Int) == 8) = false := by rw [beq_eq_false_iff_ne]; omega
 have HS0 := Lib.hid (Stp.alloc hW (stBox op text (.slice Ae exprs.length ce) (.slice Ab body.length cb) (.slice Af els.length cf) place))
 clear hsh hop hT hVe hVb hVf hI hW hlen
 unfold stBox at *
 change Calls Tryz.prog 138 #[.pointer (some ⟨R, 0, none⟩), .agg #[.int .i64 op, .string (strN text), (.slice Ae exprs.length ce), (.slice Ab body.length cb), (.slice Af els.length cf), .int .i64 place]] w _
 go_enter Tryz.func138, Tryz.ntmps138
 go_wp2
 go_end0
 have hfin := HS0.out
 exact Stp.puts (by simpa using hfin)
end
end Go.Proofs.YtcilgkdnjgmogaaGreatDoor
