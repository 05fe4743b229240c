/- What the program's writer does with a statement. Conditions: the writer and the statement lie in memory, and there is room; its expressions and blocks are written as said. -/
import Derived.Test.YtoicncfpoklanaaDoorWe
namespace Go.Proofs.YtoicncfpoklanaaDoor
open Go.RowKit
set_option maxRecDepth 100000
set_option linter.unusedSimpArgs false
set_option linter.unusedVariables false

theorem stsC_sl {w : World} {D : Nat → Prop} {l : List St} {k : Value} (h : StsC w D l k) : ∃ A c, k = .slice A l.length c := by
  cases h with
  | mk _ ks _ _ h1 _ _ _ =>
    obtain ⟨A, c, e, _⟩ := h1
    exact ⟨A, c, e⟩
def BlockWr (R : Nat) (T : World → Prop) (l : List St) : Prop := ∀ (V : Value) (t : List Nat) (w : World), Wr R t w → T w → StsC w (· < R) l V → (t ++ blockT (showB l)).length ≤ 140737488355328 →
  Calls Tryd.prog 26 #[.pointer (some ⟨R, 0, none⟩), V] w (Puts R t (blockT (showB l)) w)
def StmtOk (R : Nat) (T : World → Prop) (s : St) : Prop := ∀ (k : Three) (t : List Nat) (w : World), Wr R t w → T w → ExsC w (· < R) s.exprs k.e → StsC w (· < R) s.body k.b → StsC w (· < R) s.els k.f → (t ++ showS s).length ≤ 140737488355328 →
  Calls Tryd.prog 45 #[.pointer (some ⟨R, 0, none⟩), .agg (stC s k.e k.b k.f).toArray] w (Puts R t (showS s) w)
/-- what a statement's parts are, in memory -/
def StI (R : Nat) (T : World → Prop) (exprs : List Ex) (body els : List St) (E B F : Value) (w : World) : Prop := T w ∧ ExsC w (· < R) exprs E ∧ StsC w (· < R) body B ∧ StsC w (· < R) els F
theorem StI.kept {R : Nat} {T : World → Prop} (hT : ∀ w w', T w → Below R w w' → T w') {exprs : List Ex} {body els : List St} {E B F : Value} {w w' : World} (h : StI R T exprs body els E B F w) (hb : Below R w w') : StI R T exprs body els E B F w' :=
  ⟨hT _ _ h.1 hb, h.2.1.same (below_same hb), h.2.2.1.same (below_same hb), h.2.2.2.same (below_same hb)⟩
def stBox (op : Nat) (text : List Nat) (E B F : Value) (place : Nat) : Obj := .cells #[.int .i64 op, .string (strN text), E, B, F, .int .i64 place] 43 (0, 0)
set_option maxHeartbeats 800000 in
theorem assign (R : Nat) (T : World → Prop) (hT0 : ∀ w w', T w → Below R w w' → T w') (op : Nat) (text : List Nat) (exprs : List Ex) (body els : List St) (E B F : Value) (place : Nat) (hE : ∀ x ∈ exprs, ExprWr R T x) (t : List Nat) (w : World) (hW : Wr R t w) (hI : StI R T exprs body els E B F w) (hlen : (t ++ setT text (showL exprs)).length ≤ 140737488355328) :
    Calls Tryd.prog 57 #[.pointer (some ⟨R, 0, none⟩), .agg #[.int .i64 op, .string (strN text), E, B, F, .int .i64 place]] w (Puts R t (setT text (showL exprs)) w) := by
  obtain ⟨Ae, ce, rfl⟩ := exsC_slice hI.2.1
  obtain ⟨Ab, cb, rfl⟩ := stsC_sl hI.2.2.1
  obtain ⟨Af, cf, rfl⟩ := stsC_sl hI.2.2.2
  unfold setT at hlen
  have hlR := hW.lt
  have S0 := Stp.alloc hW (stBox op text (.slice Ae exprs.length ce) (.slice Ab body.length cb) (.slice Af els.length cf) place)
  have HB := Lib.hid (heap_alloc_new w (stBox op text (.slice Ae exprs.length ce) (.slice Ab body.length cb) (.slice Af els.length cf) place))
  have hI1 := hI.kept hT0 S0.2.1
  have HTV : Hid (∀ u w', Stp R (w.alloc (stBox op text (.slice Ae exprs.length ce) (.slice Ab body.length cb) (.slice Af els.length cf) place)) u w' → StI R T exprs body els (.slice Ae exprs.length ce) (.slice Ab body.length cb) (.slice Af els.length cf) w') := fun u w' h => hI1.kept hT0 h.2.1
  have HS0 := Lib.hid S0
  have hll := hlen
  simp only [List.length_append] at hll
  have HLL := Lib.hid hll
  have K := Lib.hid (put2z R _ ⟨#[32, 61, 32]⟩ text [32, 61, 32] (t) (w.alloc (stBox op text (.slice Ae exprs.length ce) (.slice Ab body.length cb) (.slice Af els.length cf) place)) S0.1 rfl (by kernel_rfl) (by simp only [List.length_append] at hll ⊢; omega) (w.heap.size + 1) (by simp))
  clear S0 hI1 hI hW hlen hll
  unfold stBox at *
  go_enter Tryd.func57, Tryd.ntmps57
  go_wp2_with fail
  generalize w.alloc (.cells #[.int .i64 op, .string (strN text), (.slice Ae exprs.length ce), (.slice Ab body.length cb), (.slice Af els.length cf), .int .i64 place] 43) = w1 at *
  (with_reducible refine K.out.mono ?_)
  clear K
  rintro e' w2 hp1
  have hr1 := hp1.1
  subst hr1
  have HS2 := Lib.hid ((Stp.start HS0.out.1).next hp1)
  clear hp1
  have b2 := HS2.out.block HB.out (by omega) (by decide)
  have c2 : w2.cell? ⟨w.heap.size, 2, none⟩ = some ((.slice Ae exprs.length ce)) := by rw [Lib.cell_of_heap b2]; rfl
  have hll := HLL.out
  have K := Lib.hid (exprAtz R T exprs hE (.slice Ae exprs.length ce) 0 0 rfl (t ++ (text ++ [32, 61, 32])) w2 HS2.out.1 (HTV.out _ _ HS2.out).1 (HTV.out _ _ HS2.out).2.1 (by simp only [List.length_append] at hll ⊢; omega))
  clear hll
  clear b2
  go_wp2_with fail
  (with_reducible refine K.out.mono ?_)
  clear K
  rintro e' w3 hp1
  have hr1 := hp1.1
  subst hr1
  have HS3 := Lib.hid (HS2.out.next hp1)
  clear hp1
  go_wp2
  go_end0
  have hfin := HS0.out.trans HS3.out
  refine Stp.puts ?_
  simpa [setT] using hfin
def chT (exprs : List Ex) (body els : List St) : List Nat := [105, 102, 32] ++ atK (showL exprs) 0 ++ [32] ++ blockT (showB body) ++ (if els.isEmpty then [] else [32, 101, 108, 115, 101, 32] ++ blockT (showB els))
set_option maxHeartbeats 1600000 in
theorem choicen (R : Nat) (T : World → Prop) (hT0 : ∀ w w', T w → Below R w w' → T w') (op : Nat) (text : List Nat) (exprs : List Ex) (body els : List St) (E B F : Value) (place : Nat) (hE : ∀ x ∈ exprs, ExprWr R T x) (hB : BlockWr R T body) (hL : BlockWr R T els) (hc : els = []) (t : List Nat) (w : World) (hW : Wr R t w) (hI : StI R T exprs body els E B F w) (hlen : (t ++ chT exprs body els).length ≤ 140737488355328) :
    Calls Tryd.prog 58 #[.pointer (some ⟨R, 0, none⟩), .agg #[.int .i64 op, .string (strN text), E, B, F, .int .i64 place]] w (Puts R t (chT exprs body els) w) := by
  obtain ⟨Ae, ce, rfl⟩ := exsC_slice hI.2.1
  obtain ⟨Ab, cb, rfl⟩ := stsC_sl hI.2.2.1
  obtain ⟨Af, cf, rfl⟩ := stsC_sl hI.2.2.2
  have hch : chT exprs body els = [105, 102, 32] ++ atK (showL exprs) 0 ++ [32] ++ blockT (showB body) ++ ([]) := by
    unfold chT
    subst hc; rfl
  rw [hch] at hlen ⊢
  have HCh := Lib.hid hch
  have hz : els.length = 0 := by rw [hc]; rfl
  have hzz : decide (0 < els.length) = false := by simp; omega
  clear hch hc hz
  have hlR := hW.lt
  have S0 := Stp.alloc hW (stBox op text (.slice Ae exprs.length ce) (.slice Ab body.length cb) (.slice Af els.length cf) place)
  have HB := Lib.hid (heap_alloc_new w (stBox op text (.slice Ae exprs.length ce) (.slice Ab body.length cb) (.slice Af els.length cf) place))
  have hI1 := hI.kept hT0 S0.2.1
  have HTV : Hid (∀ u w', Stp R (w.alloc (stBox op text (.slice Ae exprs.length ce) (.slice Ab body.length cb) (.slice Af els.length cf) place)) u w' → StI R T exprs body els (.slice Ae exprs.length ce) (.slice Ab body.length cb) (.slice Af els.length cf) w') := fun u w' h => hI1.kept hT0 h.2.1
  have HS0 := Lib.hid S0
  have hll := hlen
  simp only [List.length_append] at hll
  have HLL := Lib.hid hll
  have K := Lib.hid (put1z R ⟨#[105, 102, 32]⟩ [105, 102, 32] (t) (w.alloc (stBox op text (.slice Ae exprs.length ce) (.slice Ab body.length cb) (.slice Af els.length cf) place)) S0.1 (by kernel_rfl) (by simp only [List.length_append] at hll ⊢; omega) (w.heap.size + 1) (by simp))
  clear S0 hI1 hI hW hlen hll
  unfold stBox at *
  go_enter Tryd.func58, Tryd.ntmps58
  go_wp2_with fail
  generalize w.alloc (.cells #[.int .i64 op, .string (strN text), (.slice Ae exprs.length ce), (.slice Ab body.length cb), (.slice Af els.length cf), .int .i64 place] 43) = w1 at *
  (with_reducible refine K.out.mono ?_)
  clear K
  rintro e' w2 hp1
  have hr1 := hp1.1
  subst hr1
  have HS2 := Lib.hid ((Stp.start HS0.out.1).next hp1)
  clear hp1
  have b2 := HS2.out.block HB.out (by omega) (by decide)
  have c2 : w2.cell? ⟨w.heap.size, 2, none⟩ = some ((.slice Ae exprs.length ce)) := by rw [Lib.cell_of_heap b2]; rfl
  have hll := HLL.out
  have K := Lib.hid (exprAtz R T exprs hE (.slice Ae exprs.length ce) 0 0 rfl (t ++ [105, 102, 32]) w2 HS2.out.1 (HTV.out _ _ HS2.out).1 (HTV.out _ _ HS2.out).2.1 (by simp only [List.length_append] at hll ⊢; omega))
  clear hll
  clear b2
  go_wp2_with fail
  (with_reducible refine K.out.mono ?_)
  clear K
  rintro e' w3 hp1
  have hr1 := hp1.1
  subst hr1
  have HS3 := Lib.hid (HS2.out.next hp1)
  clear hp1
  have hll := HLL.out
  have K := Lib.hid (put1z R ⟨#[32]⟩ [32] (t ++ [105, 102, 32] ++ atK (showL exprs) 0) w3 HS3.out.1 (by kernel_rfl) (by simp only [List.length_append] at hll ⊢; omega) w3.heap.size rfl)
  clear hll
  go_wp2_with fail
  (with_reducible refine K.out.mono ?_)
  clear K
  rintro e' w4 hp1
  have hr1 := hp1.1
  subst hr1
  have HS4 := Lib.hid (HS3.out.next hp1)
  clear hp1
  have b4 := HS4.out.block HB.out (by omega) (by decide)
  have c3 : w4.cell? ⟨w.heap.size, 3, none⟩ = some ((.slice Ab body.length cb)) := by rw [Lib.cell_of_heap b4]; rfl
  have hll := HLL.out
  have K := Lib.hid (hB (.slice Ab body.length cb) (t ++ [105, 102, 32] ++ atK (showL exprs) 0 ++ [32]) w4 HS4.out.1 (HTV.out _ _ HS4.out).1 (HTV.out _ _ HS4.out).2.2.1 (by simp only [List.length_append] at hll ⊢; omega))
  clear hll
  clear b4
  go_wp2_with fail
  (with_reducible refine K.out.mono ?_)
  clear K
  rintro e' w5 hp1
  have hr1 := hp1.1
  subst hr1
  have HS5 := Lib.hid (HS4.out.next hp1)
  clear hp1
  have b5 := HS5.out.block HB.out (by omega) (by decide)
  have c4 : w5.cell? ⟨w.heap.size, 4, none⟩ = some ((.slice Af els.length cf)) := by rw [Lib.cell_of_heap b5]; rfl
  clear b5
  go_wp2
  go_end0
  have hfin := HS0.out.trans HS5.out
  refine Stp.puts ?_
  simpa using hfin
set_option maxHeartbeats 1600000 in
theorem choicey (R : Nat) (T : World → Prop) (hT0 : ∀ w w', T w → Below R w w' → T w') (op : Nat) (text : List Nat) (exprs : List Ex) (body els : List St) (E B F : Value) (place : Nat) (hE : ∀ x ∈ exprs, ExprWr R T x) (hB : BlockWr R T body) (hL : BlockWr R T els) (hc : els ≠ []) (t : List Nat) (w : World) (hW : Wr R t w) (hI : StI R T exprs body els E B F w) (hlen : (t ++ chT exprs body els).length ≤ 140737488355328) :
    Calls Tryd.prog 58 #[.pointer (some ⟨R, 0, none⟩), .agg #[.int .i64 op, .string (strN text), E, B, F, .int .i64 place]] w (Puts R t (chT exprs body els) w) := by
  obtain ⟨Ae, ce, rfl⟩ := exsC_slice hI.2.1
  obtain ⟨Ab, cb, rfl⟩ := stsC_sl hI.2.2.1
  obtain ⟨Af, cf, rfl⟩ := stsC_sl hI.2.2.2
  have hch : chT exprs body els = [105, 102, 32] ++ atK (showL exprs) 0 ++ [32] ++ blockT (showB body) ++ ([32, 101, 108, 115, 101, 32] ++ blockT (showB els)) := by
    unfold chT
    rw [if_neg (by cases els with | nil => exact absurd rfl hc | cons => simp)]
  rw [hch] at hlen ⊢
  have HCh := Lib.hid hch
  have hz : 0 < els.length := by cases els with | nil => exact absurd rfl hc | cons => simp
  have hzz : decide (0 < els.length) = true := by simp; omega
  clear hch hc 
  have hlR := hW.lt
  have S0 := Stp.alloc hW (stBox op text (.slice Ae exprs.length ce) (.slice Ab body.length cb) (.slice Af els.length cf) place)
  have HB := Lib.hid (heap_alloc_new w (stBox op text (.slice Ae exprs.length ce) (.slice Ab body.length cb) (.slice Af els.length cf) place))
  have hI1 := hI.kept hT0 S0.2.1
  have HTV : Hid (∀ u w', Stp R (w.alloc (stBox op text (.slice Ae exprs.length ce) (.slice Ab body.length cb) (.slice Af els.length cf) place)) u w' → StI R T exprs body els (.slice Ae exprs.length ce) (.slice Ab body.length cb) (.slice Af els.length cf) w') := fun u w' h => hI1.kept hT0 h.2.1
  have HS0 := Lib.hid S0
  have hll := hlen
  simp only [List.length_append] at hll
  have HLL := Lib.hid hll
  have K := Lib.hid (put1z R ⟨#[105, 102, 32]⟩ [105, 102, 32] (t) (w.alloc (stBox op text (.slice Ae exprs.length ce) (.slice Ab body.length cb) (.slice Af els.length cf) place)) S0.1 (by kernel_rfl) (by simp only [List.length_append] at hll ⊢; omega) (w.heap.size + 1) (by simp))
  clear S0 hI1 hI hW hlen hll
  unfold stBox at *
  go_enter Tryd.func58, Tryd.ntmps58
  go_wp2_with fail
  generalize w.alloc (.cells #[.int .i64 op, .string (strN text), (.slice Ae exprs.length ce), (.slice Ab body.length cb), (.slice Af els.length cf), .int .i64 place] 43) = w1 at *
  (with_reducible refine K.out.mono ?_)
  clear K
  rintro e' w2 hp1
  have hr1 := hp1.1
  subst hr1
  have HS2 := Lib.hid ((Stp.start HS0.out.1).next hp1)
  clear hp1
  have b2 := HS2.out.block HB.out (by omega) (by decide)
  have c2 : w2.cell? ⟨w.heap.size, 2, none⟩ = some ((.slice Ae exprs.length ce)) := by rw [Lib.cell_of_heap b2]; rfl
  have hll := HLL.out
  have K := Lib.hid (exprAtz R T exprs hE (.slice Ae exprs.length ce) 0 0 rfl (t ++ [105, 102, 32]) w2 HS2.out.1 (HTV.out _ _ HS2.out).1 (HTV.out _ _ HS2.out).2.1 (by simp only [List.length_append] at hll ⊢; omega))
  clear hll
  clear b2
  go_wp2_with fail
  (with_reducible refine K.out.mono ?_)
  clear K
  rintro e' w3 hp1
  have hr1 := hp1.1
  subst hr1
  have HS3 := Lib.hid (HS2.out.next hp1)
  clear hp1
  have hll := HLL.out
  have K := Lib.hid (put1z R ⟨#[32]⟩ [32] (t ++ [105, 102, 32] ++ atK (showL exprs) 0) w3 HS3.out.1 (by kernel_rfl) (by simp only [List.length_append] at hll ⊢; omega) w3.heap.size rfl)
  clear hll
  go_wp2_with fail
  (with_reducible refine K.out.mono ?_)
  clear K
  rintro e' w4 hp1
  have hr1 := hp1.1
  subst hr1
  have HS4 := Lib.hid (HS3.out.next hp1)
  clear hp1
  have b4 := HS4.out.block HB.out (by omega) (by decide)
  have c3 : w4.cell? ⟨w.heap.size, 3, none⟩ = some ((.slice Ab body.length cb)) := by rw [Lib.cell_of_heap b4]; rfl
  have hll := HLL.out
  have K := Lib.hid (hB (.slice Ab body.length cb) (t ++ [105, 102, 32] ++ atK (showL exprs) 0 ++ [32]) w4 HS4.out.1 (HTV.out _ _ HS4.out).1 (HTV.out _ _ HS4.out).2.2.1 (by simp only [List.length_append] at hll ⊢; omega))
  clear hll
  clear b4
  go_wp2_with fail
  (with_reducible refine K.out.mono ?_)
  clear K
  rintro e' w5 hp1
  have hr1 := hp1.1
  subst hr1
  have HS5 := Lib.hid (HS4.out.next hp1)
  clear hp1
  have b5 := HS5.out.block HB.out (by omega) (by decide)
  have c4 : w5.cell? ⟨w.heap.size, 4, none⟩ = some ((.slice Af els.length cf)) := by rw [Lib.cell_of_heap b5]; rfl
  have hll := HLL.out
  have K := Lib.hid (put1z R ⟨#[32, 101, 108, 115, 101, 32]⟩ [32, 101, 108, 115, 101, 32] (t ++ [105, 102, 32] ++ atK (showL exprs) 0 ++ [32] ++ blockT (showB body)) w5 HS5.out.1 (by kernel_rfl) (by simp only [List.length_append] at hll ⊢; omega) w5.heap.size rfl)
  clear hll
  clear b5
  go_wp2_with fail
  (with_reducible refine K.out.mono ?_)
  clear K
  rintro e' w6 hp1
  have hr1 := hp1.1
  subst hr1
  have HS6 := Lib.hid (HS5.out.next hp1)
  clear hp1
  have b6 := HS6.out.block HB.out (by omega) (by decide)
  have c4 : w6.cell? ⟨w.heap.size, 4, none⟩ = some ((.slice Af els.length cf)) := by rw [Lib.cell_of_heap b6]; rfl
  have hll := HLL.out
  have K := Lib.hid (hL (.slice Af els.length cf) (t ++ [105, 102, 32] ++ atK (showL exprs) 0 ++ [32] ++ blockT (showB body) ++ [32, 101, 108, 115, 101, 32]) w6 HS6.out.1 (HTV.out _ _ HS6.out).1 (HTV.out _ _ HS6.out).2.2.2 (by simp only [List.length_append] at hll ⊢; omega))
  clear hll
  clear b6
  go_wp2_with fail
  (with_reducible refine K.out.mono ?_)
  clear K
  rintro e' w7 hp1
  have hr1 := hp1.1
  subst hr1
  have HS7 := Lib.hid (HS6.out.next hp1)
  clear hp1
  go_wp2
  go_end0
  have hfin := HS0.out.trans HS7.out
  refine Stp.puts ?_
  simpa using hfin
theorem choiceW (R : Nat) (T : World → Prop) (hT0 : ∀ w w', T w → Below R w w' → T w') (op : Nat) (text : List Nat) (exprs : List Ex) (body els : List St) (E B F : Value) (place : Nat) (hE : ∀ x ∈ exprs, ExprWr R T x) (hB : BlockWr R T body) (hL : BlockWr R T els) (t : List Nat) (w : World) (hW : Wr R t w) (hI : StI R T exprs body els E B F w) (hlen : (t ++ chT exprs body els).length ≤ 140737488355328) :
    Calls Tryd.prog 58 #[.pointer (some ⟨R, 0, none⟩), .agg #[.int .i64 op, .string (strN text), E, B, F, .int .i64 place]] w (Puts R t (chT exprs body els) w) := by
  by_cases hc : els = []
  · exact choicen R T hT0 op text exprs body els E B F place hE hB hL hc t w hW hI hlen
  · exact choicey R T hT0 op text exprs body els E B F place hE hB hL hc t w hW hI hlen
set_option maxHeartbeats 1600000 in
theorem stmt1 {R : Nat} {T : World → Prop} (hT0 : ∀ w w', T w → Below R w w' → T w') (op : Nat) (text : List Nat) (exprs : List Ex) (body els : List St) (place : Nat) (hop : op = 1) (hE : ∀ x ∈ exprs, ExprWr R T x) (hB : BlockWr R T body) (hL : BlockWr R T els) : StmtOk R T (.mk op text exprs body els place) := by
  intro k t w hW hT hVe hVb hVf hlen
  obtain ⟨E, B, F⟩ := k
  have hI : StI R T exprs body els E B F w := ⟨hT, hVe, hVb, hVf⟩
  obtain ⟨Ae, ce, rfl⟩ := exsC_slice hI.2.1
  obtain ⟨Ab, cb, rfl⟩ := stsC_sl hI.2.2.1
  obtain ⟨Af, cf, rfl⟩ := stsC_sl hI.2.2.2
  have hsh : showS (.mk op text exprs body els place) = [108, 101, 116, 32] ++ setT text (showL exprs) ++ [59] := by
    rw [showS_eq]
    subst hop
    rfl
  rw [hsh] at hlen ⊢
  have q1 : (((op : Nat) : Int) == 1) = true := by rw [hop]; rfl
  clear hsh hop hT hVe hVb hVf 
  change Calls Tryd.prog 45 #[.pointer (some ⟨R, 0, none⟩), .agg #[.int .i64 op, .string (strN text), (.slice Ae exprs.length ce), (.slice Ab body.length cb), (.slice Af els.length cf), .int .i64 place]] w _
  have hlR := hW.lt
  have S0 := Stp.alloc hW (stBox op text (.slice Ae exprs.length ce) (.slice Ab body.length cb) (.slice Af els.length cf) place)
  have HB := Lib.hid (heap_alloc_new w (stBox op text (.slice Ae exprs.length ce) (.slice Ab body.length cb) (.slice Af els.length cf) place))
  have hI1 := hI.kept hT0 S0.2.1
  have HTV : Hid (∀ u w', Stp R (w.alloc (stBox op text (.slice Ae exprs.length ce) (.slice Ab body.length cb) (.slice Af els.length cf) place)) u w' → StI R T exprs body els (.slice Ae exprs.length ce) (.slice Ab body.length cb) (.slice Af els.length cf) w') := fun u w' h => hI1.kept hT0 h.2.1
  have HS0 := Lib.hid S0
  have hll := hlen
  simp only [List.length_append] at hll
  have HLL := Lib.hid hll
  have K := Lib.hid (put1z R ⟨#[108, 101, 116, 32]⟩ [108, 101, 116, 32] (t) (w.alloc (stBox op text (.slice Ae exprs.length ce) (.slice Ab body.length cb) (.slice Af els.length cf) place)) S0.1 (by kernel_rfl) (by simp only [List.length_append] at hll ⊢; omega) (w.heap.size + 1) (by simp))
  clear S0 hI1 hI hW hlen hll
  unfold stBox at *
  go_enter Tryd.func45, Tryd.ntmps45
  go_wp2_with fail
  generalize w.alloc (.cells #[.int .i64 op, .string (strN text), (.slice Ae exprs.length ce), (.slice Ab body.length cb), (.slice Af els.length cf), .int .i64 place] 43) = w1 at *
  (with_reducible refine K.out.mono ?_)
  clear K
  rintro e' w2 hp1
  have hr1 := hp1.1
  subst hr1
  have HS2 := Lib.hid ((Stp.start HS0.out.1).next hp1)
  clear hp1
  have b2 := HS2.out.block HB.out (by omega) (by decide)
  have hll := HLL.out
  have K := Lib.hid (assign R T hT0 op text exprs body els (.slice Ae exprs.length ce) (.slice Ab body.length cb) (.slice Af els.length cf) place hE (t ++ [108, 101, 116, 32]) w2 HS2.out.1 (HTV.out _ _ HS2.out) (by simp only [List.length_append] at hll ⊢; omega))
  clear hll
  have HR2 := Lib.hid (range_of (cs := [.int .i64 op, .string (strN text), (.slice Ae exprs.length ce), (.slice Ab body.length cb), (.slice Af els.length cf), .int .i64 place]) b2)
  clear b2
  go_wp2_with (refine wpList_load_mid rfl 43 (.tmp 3) rfl w.heap.size 0 rfl [.int .i64 op, .string (strN text), (.slice Ae exprs.length ce), (.slice Ab body.length cb), (.slice Af els.length cf), .int .i64 place] _ HR2.out Tryd.underlying43 rfl info43s ?_; refine Hid.out ?_)
  refine Lib.hid ?_
  go_wp2_with fail
  (with_reducible refine K.out.mono ?_)
  clear K
  rintro e' w3 hp1
  have hr1 := hp1.1
  subst hr1
  have HS3 := Lib.hid (HS2.out.next hp1)
  clear hp1
  have hll := HLL.out
  have K := Lib.hid (put1z R ⟨#[59]⟩ [59] (t ++ [108, 101, 116, 32] ++ setT text (showL exprs)) w3 HS3.out.1 (by kernel_rfl) (by simp only [List.length_append] at hll ⊢; omega) w3.heap.size rfl)
  clear hll
  go_wp2_with fail
  (with_reducible refine K.out.mono ?_)
  clear K
  rintro e' w4 hp1
  have hr1 := hp1.1
  subst hr1
  have HS4 := Lib.hid (HS3.out.next hp1)
  clear hp1
  go_wp2
  go_end0
  have hfin := HS0.out.trans HS4.out
  refine Stp.puts ?_
  simpa using hfin
set_option maxHeartbeats 1600000 in
theorem stmt2 {R : Nat} {T : World → Prop} (hT0 : ∀ w w', T w → Below R w w' → T w') (op : Nat) (text : List Nat) (exprs : List Ex) (body els : List St) (place : Nat) (hop : op = 2) (hE : ∀ x ∈ exprs, ExprWr R T x) (hB : BlockWr R T body) (hL : BlockWr R T els) : StmtOk R T (.mk op text exprs body els place) := by
  intro k t w hW hT hVe hVb hVf hlen
  obtain ⟨E, B, F⟩ := k
  have hI : StI R T exprs body els E B F w := ⟨hT, hVe, hVb, hVf⟩
  obtain ⟨Ae, ce, rfl⟩ := exsC_slice hI.2.1
  obtain ⟨Ab, cb, rfl⟩ := stsC_sl hI.2.2.1
  obtain ⟨Af, cf, rfl⟩ := stsC_sl hI.2.2.2
  have hsh : showS (.mk op text exprs body els place) = setT text (showL exprs) ++ [59] := by
    rw [showS_eq]
    subst hop
    rfl
  rw [hsh] at hlen ⊢
  have q1 : (((op : Nat) : Int) == 1) = false := by rw [hop]; rfl
  have q2 : (((op : Nat) : Int) == 2) = true := by rw [hop]; rfl
  clear hsh hop hT hVe hVb hVf 
  change Calls Tryd.prog 45 #[.pointer (some ⟨R, 0, none⟩), .agg #[.int .i64 op, .string (strN text), (.slice Ae exprs.length ce), (.slice Ab body.length cb), (.slice Af els.length cf), .int .i64 place]] w _
  have hlR := hW.lt
  have S0 := Stp.alloc hW (stBox op text (.slice Ae exprs.length ce) (.slice Ab body.length cb) (.slice Af els.length cf) place)
  have HB := Lib.hid (heap_alloc_new w (stBox op text (.slice Ae exprs.length ce) (.slice Ab body.length cb) (.slice Af els.length cf) place))
  have hI1 := hI.kept hT0 S0.2.1
  have HTV : Hid (∀ u w', Stp R (w.alloc (stBox op text (.slice Ae exprs.length ce) (.slice Ab body.length cb) (.slice Af els.length cf) place)) u w' → StI R T exprs body els (.slice Ae exprs.length ce) (.slice Ab body.length cb) (.slice Af els.length cf) w') := fun u w' h => hI1.kept hT0 h.2.1
  have HS0 := Lib.hid S0
  have hll := hlen
  simp only [List.length_append] at hll
  have HLL := Lib.hid hll
  have K := Lib.hid (assign R T hT0 op text exprs body els (.slice Ae exprs.length ce) (.slice Ab body.length cb) (.slice Af els.length cf) place hE (t) (w.alloc (stBox op text (.slice Ae exprs.length ce) (.slice Ab body.length cb) (.slice Af els.length cf) place)) S0.1 hI1 (by simp only [List.length_append] at hll ⊢; omega))
  clear S0 hI1 hI hW hlen hll
  unfold stBox at *
  go_enter Tryd.func45, Tryd.ntmps45
  go_wp2_with fail
  generalize w.alloc (.cells #[.int .i64 op, .string (strN text), (.slice Ae exprs.length ce), (.slice Ab body.length cb), (.slice Af els.length cf), .int .i64 place] 43) = w1 at *
  (with_reducible refine K.out.mono ?_)
  clear K
  rintro e' w2 hp1
  have hr1 := hp1.1
  subst hr1
  have HS2 := Lib.hid ((Stp.start HS0.out.1).next hp1)
  clear hp1
  have hll := HLL.out
  have K := Lib.hid (put1z R ⟨#[59]⟩ [59] (t ++ setT text (showL exprs)) w2 HS2.out.1 (by kernel_rfl) (by simp only [List.length_append] at hll ⊢; omega) w2.heap.size rfl)
  clear hll
  go_wp2_with fail
  (with_reducible refine K.out.mono ?_)
  clear K
  rintro e' w3 hp1
  have hr1 := hp1.1
  subst hr1
  have HS3 := Lib.hid (HS2.out.next hp1)
  clear hp1
  go_wp2
  go_end0
  have hfin := HS0.out.trans HS3.out
  refine Stp.puts ?_
  simpa using hfin
set_option maxHeartbeats 1600000 in
theorem stmt3 {R : Nat} {T : World → Prop} (hT0 : ∀ w w', T w → Below R w w' → T w') (op : Nat) (text : List Nat) (exprs : List Ex) (body els : List St) (place : Nat) (hop : op = 3) (hE : ∀ x ∈ exprs, ExprWr R T x) (hB : BlockWr R T body) (hL : BlockWr R T els) : StmtOk R T (.mk op text exprs body els place) := by
  intro k t w hW hT hVe hVb hVf hlen
  obtain ⟨E, B, F⟩ := k
  have hI : StI R T exprs body els E B F w := ⟨hT, hVe, hVb, hVf⟩
  obtain ⟨Ae, ce, rfl⟩ := exsC_slice hI.2.1
  obtain ⟨Ab, cb, rfl⟩ := stsC_sl hI.2.2.1
  obtain ⟨Af, cf, rfl⟩ := stsC_sl hI.2.2.2
  have hsh : showS (.mk op text exprs body els place) = chT exprs body els := by
    rw [showS_eq]
    subst hop
    rfl
  rw [hsh] at hlen ⊢
  have q1 : (((op : Nat) : Int) == 1) = false := by rw [hop]; rfl
  have q2 : (((op : Nat) : Int) == 2) = false := by rw [hop]; rfl
  have q3 : (((op : Nat) : Int) == 3) = true := by rw [hop]; rfl
  clear hsh hop hT hVe hVb hVf 
  change Calls Tryd.prog 45 #[.pointer (some ⟨R, 0, none⟩), .agg #[.int .i64 op, .string (strN text), (.slice Ae exprs.length ce), (.slice Ab body.length cb), (.slice Af els.length cf), .int .i64 place]] w _
  have hlR := hW.lt
  have S0 := Stp.alloc hW (stBox op text (.slice Ae exprs.length ce) (.slice Ab body.length cb) (.slice Af els.length cf) place)
  have HB := Lib.hid (heap_alloc_new w (stBox op text (.slice Ae exprs.length ce) (.slice Ab body.length cb) (.slice Af els.length cf) place))
  have hI1 := hI.kept hT0 S0.2.1
  have HTV : Hid (∀ u w', Stp R (w.alloc (stBox op text (.slice Ae exprs.length ce) (.slice Ab body.length cb) (.slice Af els.length cf) place)) u w' → StI R T exprs body els (.slice Ae exprs.length ce) (.slice Ab body.length cb) (.slice Af els.length cf) w') := fun u w' h => hI1.kept hT0 h.2.1
  have HS0 := Lib.hid S0
  have hll := hlen
  simp only [List.length_append] at hll
  have HLL := Lib.hid hll
  have K := Lib.hid (choiceW R T hT0 op text exprs body els (.slice Ae exprs.length ce) (.slice Ab body.length cb) (.slice Af els.length cf) place hE hB hL (t) (w.alloc (stBox op text (.slice Ae exprs.length ce) (.slice Ab body.length cb) (.slice Af els.length cf) place)) S0.1 hI1 (by simp only [List.length_append] at hll ⊢; omega))
  clear S0 hI1 hI hW hlen hll
  unfold stBox at *
  go_enter Tryd.func45, Tryd.ntmps45
  go_wp2_with fail
  generalize w.alloc (.cells #[.int .i64 op, .string (strN text), (.slice Ae exprs.length ce), (.slice Ab body.length cb), (.slice Af els.length cf), .int .i64 place] 43) = w1 at *
  (with_reducible refine K.out.mono ?_)
  clear K
  rintro e' w2 hp1
  have hr1 := hp1.1
  subst hr1
  have HS2 := Lib.hid ((Stp.start HS0.out.1).next hp1)
  clear hp1
  go_wp2
  go_end0
  have hfin := HS0.out.trans HS2.out
  refine Stp.puts ?_
  simpa using hfin
set_option maxHeartbeats 1600000 in
theorem stmt4 {R : Nat} {T : World → Prop} (hT0 : ∀ w w', T w → Below R w w' → T w') (op : Nat) (text : List Nat) (exprs : List Ex) (body els : List St) (place : Nat) (hop : op = 4) (hE : ∀ x ∈ exprs, ExprWr R T x) (hB : BlockWr R T body) (hL : BlockWr R T els) : StmtOk R T (.mk op text exprs body els place) := by
  intro k t w hW hT hVe hVb hVf hlen
  obtain ⟨E, B, F⟩ := k
  have hI : StI R T exprs body els E B F w := ⟨hT, hVe, hVb, hVf⟩
  obtain ⟨Ae, ce, rfl⟩ := exsC_slice hI.2.1
  obtain ⟨Ab, cb, rfl⟩ := stsC_sl hI.2.2.1
  obtain ⟨Af, cf, rfl⟩ := stsC_sl hI.2.2.2
  have hsh : showS (.mk op text exprs body els place) = [102, 111, 114, 32] ++ setT text (showL exprs) ++ [32, 116, 111, 32] ++ atK (showL exprs) 1 ++ [32] ++ blockT (showB body) := by
    rw [showS_eq]
    subst hop
    rfl
  rw [hsh] at hlen ⊢
  have q1 : (((op : Nat) : Int) == 1) = false := by rw [hop]; rfl
  have q2 : (((op : Nat) : Int) == 2) = false := by rw [hop]; rfl
  have q3 : (((op : Nat) : Int) == 3) = false := by rw [hop]; rfl
  have q4 : (((op : Nat) : Int) == 4) = true := by rw [hop]; rfl
  clear hsh hop hT hVe hVb hVf 
  change Calls Tryd.prog 45 #[.pointer (some ⟨R, 0, none⟩), .agg #[.int .i64 op, .string (strN text), (.slice Ae exprs.length ce), (.slice Ab body.length cb), (.slice Af els.length cf), .int .i64 place]] w _
  have hlR := hW.lt
  have S0 := Stp.alloc hW (stBox op text (.slice Ae exprs.length ce) (.slice Ab body.length cb) (.slice Af els.length cf) place)
  have HB := Lib.hid (heap_alloc_new w (stBox op text (.slice Ae exprs.length ce) (.slice Ab body.length cb) (.slice Af els.length cf) place))
  have hI1 := hI.kept hT0 S0.2.1
  have HTV : Hid (∀ u w', Stp R (w.alloc (stBox op text (.slice Ae exprs.length ce) (.slice Ab body.length cb) (.slice Af els.length cf) place)) u w' → StI R T exprs body els (.slice Ae exprs.length ce) (.slice Ab body.length cb) (.slice Af els.length cf) w') := fun u w' h => hI1.kept hT0 h.2.1
  have HS0 := Lib.hid S0
  have hll := hlen
  simp only [List.length_append] at hll
  have HLL := Lib.hid hll
  have K := Lib.hid (put1z R ⟨#[102, 111, 114, 32]⟩ [102, 111, 114, 32] (t) (w.alloc (stBox op text (.slice Ae exprs.length ce) (.slice Ab body.length cb) (.slice Af els.length cf) place)) S0.1 (by kernel_rfl) (by simp only [List.length_append] at hll ⊢; omega) (w.heap.size + 1) (by simp))
  clear S0 hI1 hI hW hlen hll
  unfold stBox at *
  go_enter Tryd.func45, Tryd.ntmps45
  go_wp2_with fail
  generalize w.alloc (.cells #[.int .i64 op, .string (strN text), (.slice Ae exprs.length ce), (.slice Ab body.length cb), (.slice Af els.length cf), .int .i64 place] 43) = w1 at *
  (with_reducible refine K.out.mono ?_)
  clear K
  rintro e' w2 hp1
  have hr1 := hp1.1
  subst hr1
  have HS2 := Lib.hid ((Stp.start HS0.out.1).next hp1)
  clear hp1
  have b2 := HS2.out.block HB.out (by omega) (by decide)
  have hll := HLL.out
  have K := Lib.hid (assign R T hT0 op text exprs body els (.slice Ae exprs.length ce) (.slice Ab body.length cb) (.slice Af els.length cf) place hE (t ++ [102, 111, 114, 32]) w2 HS2.out.1 (HTV.out _ _ HS2.out) (by simp only [List.length_append] at hll ⊢; omega))
  clear hll
  have HR2 := Lib.hid (range_of (cs := [.int .i64 op, .string (strN text), (.slice Ae exprs.length ce), (.slice Ab body.length cb), (.slice Af els.length cf), .int .i64 place]) b2)
  clear b2
  go_wp2_with (refine wpList_load_mid rfl 43 (.tmp 3) rfl w.heap.size 0 rfl [.int .i64 op, .string (strN text), (.slice Ae exprs.length ce), (.slice Ab body.length cb), (.slice Af els.length cf), .int .i64 place] _ HR2.out Tryd.underlying43 rfl info43s ?_; refine Hid.out ?_)
  refine Lib.hid ?_
  go_wp2_with fail
  (with_reducible refine K.out.mono ?_)
  clear K
  rintro e' w3 hp1
  have hr1 := hp1.1
  subst hr1
  have HS3 := Lib.hid (HS2.out.next hp1)
  clear hp1
  have hll := HLL.out
  have K := Lib.hid (put1z R ⟨#[32, 116, 111, 32]⟩ [32, 116, 111, 32] (t ++ [102, 111, 114, 32] ++ setT text (showL exprs)) w3 HS3.out.1 (by kernel_rfl) (by simp only [List.length_append] at hll ⊢; omega) w3.heap.size rfl)
  clear hll
  go_wp2_with fail
  (with_reducible refine K.out.mono ?_)
  clear K
  rintro e' w4 hp1
  have hr1 := hp1.1
  subst hr1
  have HS4 := Lib.hid (HS3.out.next hp1)
  clear hp1
  have b4 := HS4.out.block HB.out (by omega) (by decide)
  have c2 : w4.cell? ⟨w.heap.size, 2, none⟩ = some ((.slice Ae exprs.length ce)) := by rw [Lib.cell_of_heap b4]; rfl
  have hll := HLL.out
  have K := Lib.hid (exprAtz R T exprs hE (.slice Ae exprs.length ce) 1 1 rfl (t ++ [102, 111, 114, 32] ++ setT text (showL exprs) ++ [32, 116, 111, 32]) w4 HS4.out.1 (HTV.out _ _ HS4.out).1 (HTV.out _ _ HS4.out).2.1 (by simp only [List.length_append] at hll ⊢; omega))
  clear hll
  clear b4
  go_wp2_with fail
  (with_reducible refine K.out.mono ?_)
  clear K
  rintro e' w5 hp1
  have hr1 := hp1.1
  subst hr1
  have HS5 := Lib.hid (HS4.out.next hp1)
  clear hp1
  have hll := HLL.out
  have K := Lib.hid (put1z R ⟨#[32]⟩ [32] (t ++ [102, 111, 114, 32] ++ setT text (showL exprs) ++ [32, 116, 111, 32] ++ atK (showL exprs) 1) w5 HS5.out.1 (by kernel_rfl) (by simp only [List.length_append] at hll ⊢; omega) w5.heap.size rfl)
  clear hll
  go_wp2_with fail
  (with_reducible refine K.out.mono ?_)
  clear K
  rintro e' w6 hp1
  have hr1 := hp1.1
  subst hr1
  have HS6 := Lib.hid (HS5.out.next hp1)
  clear hp1
  have b6 := HS6.out.block HB.out (by omega) (by decide)
  have c3 : w6.cell? ⟨w.heap.size, 3, none⟩ = some ((.slice Ab body.length cb)) := by rw [Lib.cell_of_heap b6]; rfl
  have hll := HLL.out
  have K := Lib.hid (hB (.slice Ab body.length cb) (t ++ [102, 111, 114, 32] ++ setT text (showL exprs) ++ [32, 116, 111, 32] ++ atK (showL exprs) 1 ++ [32]) w6 HS6.out.1 (HTV.out _ _ HS6.out).1 (HTV.out _ _ HS6.out).2.2.1 (by simp only [List.length_append] at hll ⊢; omega))
  clear hll
  clear b6
  go_wp2_with fail
  (with_reducible refine K.out.mono ?_)
  clear K
  rintro e' w7 hp1
  have hr1 := hp1.1
  subst hr1
  have HS7 := Lib.hid (HS6.out.next hp1)
  clear hp1
  go_wp2
  go_end0
  have hfin := HS0.out.trans HS7.out
  refine Stp.puts ?_
  simpa using hfin
set_option maxHeartbeats 1600000 in
theorem stmt5n {R : Nat} {T : World → Prop} (hT0 : ∀ w w', T w → Below R w w' → T w') (op : Nat) (text : List Nat) (exprs : List Ex) (body els : List St) (place : Nat) (hop : op = 5) (hc : exprs = []) (hE : ∀ x ∈ exprs, ExprWr R T x) (hB : BlockWr R T body) (hL : BlockWr R T els) : StmtOk R T (.mk op text exprs body els place) := by
  intro k t w hW hT hVe hVb hVf hlen
  obtain ⟨E, B, F⟩ := k
  have hI : StI R T exprs body els E B F w := ⟨hT, hVe, hVb, hVf⟩
  obtain ⟨Ae, ce, rfl⟩ := exsC_slice hI.2.1
  obtain ⟨Ab, cb, rfl⟩ := stsC_sl hI.2.2.1
  obtain ⟨Af, cf, rfl⟩ := stsC_sl hI.2.2.2
  have hsh : showS (.mk op text exprs body els place) = [114, 101, 116, 117, 114, 110] ++ [59] := by
    rw [showS_eq]
    subst hop
    subst hc; rfl
  rw [hsh] at hlen ⊢
  have q1 : (((op : Nat) : Int) == 1) = false := by rw [hop]; rfl
  have q2 : (((op : Nat) : Int) == 2) = false := by rw [hop]; rfl
  have q3 : (((op : Nat) : Int) == 3) = false := by rw [hop]; rfl
  have q4 : (((op : Nat) : Int) == 4) = false := by rw [hop]; rfl
  have q5 : (((op : Nat) : Int) == 5) = true := by rw [hop]; rfl
  have hzz : decide (0 < exprs.length) = false := by rw [hc]; rfl
  clear hsh hop hT hVe hVb hVf hc
  change Calls Tryd.prog 45 #[.pointer (some ⟨R, 0, none⟩), .agg #[.int .i64 op, .string (strN text), (.slice Ae exprs.length ce), (.slice Ab body.length cb), (.slice Af els.length cf), .int .i64 place]] w _
  have hlR := hW.lt
  have S0 := Stp.alloc hW (stBox op text (.slice Ae exprs.length ce) (.slice Ab body.length cb) (.slice Af els.length cf) place)
  have HB := Lib.hid (heap_alloc_new w (stBox op text (.slice Ae exprs.length ce) (.slice Ab body.length cb) (.slice Af els.length cf) place))
  have hI1 := hI.kept hT0 S0.2.1
  have HTV : Hid (∀ u w', Stp R (w.alloc (stBox op text (.slice Ae exprs.length ce) (.slice Ab body.length cb) (.slice Af els.length cf) place)) u w' → StI R T exprs body els (.slice Ae exprs.length ce) (.slice Ab body.length cb) (.slice Af els.length cf) w') := fun u w' h => hI1.kept hT0 h.2.1
  have HS0 := Lib.hid S0
  have hll := hlen
  simp only [List.length_append] at hll
  have HLL := Lib.hid hll
  have K := Lib.hid (put1z R ⟨#[114, 101, 116, 117, 114, 110]⟩ [114, 101, 116, 117, 114, 110] (t) (w.alloc (stBox op text (.slice Ae exprs.length ce) (.slice Ab body.length cb) (.slice Af els.length cf) place)) S0.1 (by kernel_rfl) (by simp only [List.length_append] at hll ⊢; omega) (w.heap.size + 1) (by simp))
  clear S0 hI1 hI hW hlen hll
  unfold stBox at *
  go_enter Tryd.func45, Tryd.ntmps45
  go_wp2_with fail
  generalize w.alloc (.cells #[.int .i64 op, .string (strN text), (.slice Ae exprs.length ce), (.slice Ab body.length cb), (.slice Af els.length cf), .int .i64 place] 43) = w1 at *
  (with_reducible refine K.out.mono ?_)
  clear K
  rintro e' w2 hp1
  have hr1 := hp1.1
  subst hr1
  have HS2 := Lib.hid ((Stp.start HS0.out.1).next hp1)
  clear hp1
  have b2 := HS2.out.block HB.out (by omega) (by decide)
  have c2 : w2.cell? ⟨w.heap.size, 2, none⟩ = some ((.slice Ae exprs.length ce)) := by rw [Lib.cell_of_heap b2]; rfl
  have hll := HLL.out
  have K := Lib.hid (put1z R ⟨#[59]⟩ [59] (t ++ [114, 101, 116, 117, 114, 110]) w2 HS2.out.1 (by kernel_rfl) (by simp only [List.length_append] at hll ⊢; omega) w2.heap.size rfl)
  clear hll
  clear b2
  go_wp2_with fail
  (with_reducible refine K.out.mono ?_)
  clear K
  rintro e' w3 hp1
  have hr1 := hp1.1
  subst hr1
  have HS3 := Lib.hid (HS2.out.next hp1)
  clear hp1
  go_wp2
  go_end0
  have hfin := HS0.out.trans HS3.out
  refine Stp.puts ?_
  simpa using hfin
set_option maxHeartbeats 1600000 in
theorem stmt5y {R : Nat} {T : World → Prop} (hT0 : ∀ w w', T w → Below R w w' → T w') (op : Nat) (text : List Nat) (exprs : List Ex) (body els : List St) (place : Nat) (hop : op = 5) (hc : exprs ≠ []) (hE : ∀ x ∈ exprs, ExprWr R T x) (hB : BlockWr R T body) (hL : BlockWr R T els) : StmtOk R T (.mk op text exprs body els place) := by
  intro k t w hW hT hVe hVb hVf hlen
  obtain ⟨E, B, F⟩ := k
  have hI : StI R T exprs body els E B F w := ⟨hT, hVe, hVb, hVf⟩
  obtain ⟨Ae, ce, rfl⟩ := exsC_slice hI.2.1
  obtain ⟨Ab, cb, rfl⟩ := stsC_sl hI.2.2.1
  obtain ⟨Af, cf, rfl⟩ := stsC_sl hI.2.2.2
  have hsh : showS (.mk op text exprs body els place) = [114, 101, 116, 117, 114, 110] ++ [32] ++ atK (showL exprs) 0 ++ [59] := by
    rw [showS_eq]
    subst hop
    show [114, 101, 116, 117, 114, 110] ++ (if (showL exprs).length = 0 then [] else [32] ++ atK (showL exprs) 0) ++ [59] = _; rw [if_neg (by rw [showL_length]; cases exprs with | nil => exact absurd rfl hc | cons => simp)]; simp
  rw [hsh] at hlen ⊢
  have q1 : (((op : Nat) : Int) == 1) = false := by rw [hop]; rfl
  have q2 : (((op : Nat) : Int) == 2) = false := by rw [hop]; rfl
  have q3 : (((op : Nat) : Int) == 3) = false := by rw [hop]; rfl
  have q4 : (((op : Nat) : Int) == 4) = false := by rw [hop]; rfl
  have q5 : (((op : Nat) : Int) == 5) = true := by rw [hop]; rfl
  have hzz : decide (0 < exprs.length) = true := by cases exprs with | nil => exact absurd rfl hc | cons => simp
  clear hsh hop hT hVe hVb hVf hc
  change Calls Tryd.prog 45 #[.pointer (some ⟨R, 0, none⟩), .agg #[.int .i64 op, .string (strN text), (.slice Ae exprs.length ce), (.slice Ab body.length cb), (.slice Af els.length cf), .int .i64 place]] w _
  have hlR := hW.lt
  have S0 := Stp.alloc hW (stBox op text (.slice Ae exprs.length ce) (.slice Ab body.length cb) (.slice Af els.length cf) place)
  have HB := Lib.hid (heap_alloc_new w (stBox op text (.slice Ae exprs.length ce) (.slice Ab body.length cb) (.slice Af els.length cf) place))
  have hI1 := hI.kept hT0 S0.2.1
  have HTV : Hid (∀ u w', Stp R (w.alloc (stBox op text (.slice Ae exprs.length ce) (.slice Ab body.length cb) (.slice Af els.length cf) place)) u w' → StI R T exprs body els (.slice Ae exprs.length ce) (.slice Ab body.length cb) (.slice Af els.length cf) w') := fun u w' h => hI1.kept hT0 h.2.1
  have HS0 := Lib.hid S0
  have hll := hlen
  simp only [List.length_append] at hll
  have HLL := Lib.hid hll
  have K := Lib.hid (put1z R ⟨#[114, 101, 116, 117, 114, 110]⟩ [114, 101, 116, 117, 114, 110] (t) (w.alloc (stBox op text (.slice Ae exprs.length ce) (.slice Ab body.length cb) (.slice Af els.length cf) place)) S0.1 (by kernel_rfl) (by simp only [List.length_append] at hll ⊢; omega) (w.heap.size + 1) (by simp))
  clear S0 hI1 hI hW hlen hll
  unfold stBox at *
  go_enter Tryd.func45, Tryd.ntmps45
  go_wp2_with fail
  generalize w.alloc (.cells #[.int .i64 op, .string (strN text), (.slice Ae exprs.length ce), (.slice Ab body.length cb), (.slice Af els.length cf), .int .i64 place] 43) = w1 at *
  (with_reducible refine K.out.mono ?_)
  clear K
  rintro e' w2 hp1
  have hr1 := hp1.1
  subst hr1
  have HS2 := Lib.hid ((Stp.start HS0.out.1).next hp1)
  clear hp1
  have b2 := HS2.out.block HB.out (by omega) (by decide)
  have c2 : w2.cell? ⟨w.heap.size, 2, none⟩ = some ((.slice Ae exprs.length ce)) := by rw [Lib.cell_of_heap b2]; rfl
  have hll := HLL.out
  have K := Lib.hid (put1z R ⟨#[32]⟩ [32] (t ++ [114, 101, 116, 117, 114, 110]) w2 HS2.out.1 (by kernel_rfl) (by simp only [List.length_append] at hll ⊢; omega) w2.heap.size rfl)
  clear hll
  clear b2
  go_wp2_with fail
  (with_reducible refine K.out.mono ?_)
  clear K
  rintro e' w3 hp1
  have hr1 := hp1.1
  subst hr1
  have HS3 := Lib.hid (HS2.out.next hp1)
  clear hp1
  have b3 := HS3.out.block HB.out (by omega) (by decide)
  have c2 : w3.cell? ⟨w.heap.size, 2, none⟩ = some ((.slice Ae exprs.length ce)) := by rw [Lib.cell_of_heap b3]; rfl
  have hll := HLL.out
  have K := Lib.hid (exprAtz R T exprs hE (.slice Ae exprs.length ce) 0 0 rfl (t ++ [114, 101, 116, 117, 114, 110] ++ [32]) w3 HS3.out.1 (HTV.out _ _ HS3.out).1 (HTV.out _ _ HS3.out).2.1 (by simp only [List.length_append] at hll ⊢; omega))
  clear hll
  clear b3
  go_wp2_with fail
  (with_reducible refine K.out.mono ?_)
  clear K
  rintro e' w4 hp1
  have hr1 := hp1.1
  subst hr1
  have HS4 := Lib.hid (HS3.out.next hp1)
  clear hp1
  have hll := HLL.out
  have K := Lib.hid (put1z R ⟨#[59]⟩ [59] (t ++ [114, 101, 116, 117, 114, 110] ++ [32] ++ atK (showL exprs) 0) w4 HS4.out.1 (by kernel_rfl) (by simp only [List.length_append] at hll ⊢; omega) w4.heap.size rfl)
  clear hll
  go_wp2_with fail
  (with_reducible refine K.out.mono ?_)
  clear K
  rintro e' w5 hp1
  have hr1 := hp1.1
  subst hr1
  have HS5 := Lib.hid (HS4.out.next hp1)
  clear hp1
  go_wp2
  go_end0
  have hfin := HS0.out.trans HS5.out
  refine Stp.puts ?_
  simpa using hfin
set_option maxHeartbeats 1600000 in
theorem stmt6 {R : Nat} {T : World → Prop} (hT0 : ∀ w w', T w → Below R w w' → T w') (op : Nat) (text : List Nat) (exprs : List Ex) (body els : List St) (place : Nat) (hop : op = 6) (hE : ∀ x ∈ exprs, ExprWr R T x) (hB : BlockWr R T body) (hL : BlockWr R T els) : StmtOk R T (.mk op text exprs body els place) := by
  intro k t w hW hT hVe hVb hVf hlen
  obtain ⟨E, B, F⟩ := k
  have hI : StI R T exprs body els E B F w := ⟨hT, hVe, hVb, hVf⟩
  obtain ⟨Ae, ce, rfl⟩ := exsC_slice hI.2.1
  obtain ⟨Ab, cb, rfl⟩ := stsC_sl hI.2.2.1
  obtain ⟨Af, cf, rfl⟩ := stsC_sl hI.2.2.2
  have hsh : showS (.mk op text exprs body els place) = opT [112, 117, 116] 2 (showL exprs) ++ [59] := by
    rw [showS_eq]
    subst hop
    rfl
  rw [hsh] at hlen ⊢
  have q1 : (((op : Nat) : Int) == 1) = false := by rw [hop]; rfl
  have q2 : (((op : Nat) : Int) == 2) = false := by rw [hop]; rfl
  have q3 : (((op : Nat) : Int) == 3) = false := by rw [hop]; rfl
  have q4 : (((op : Nat) : Int) == 4) = false := by rw [hop]; rfl
  have q5 : (((op : Nat) : Int) == 5) = false := by rw [hop]; rfl
  have q6 : (((op : Nat) : Int) == 6) = true := by rw [hop]; rfl
  clear hsh hop hT hVe hVb hVf 
  change Calls Tryd.prog 45 #[.pointer (some ⟨R, 0, none⟩), .agg #[.int .i64 op, .string (strN text), (.slice Ae exprs.length ce), (.slice Ab body.length cb), (.slice Af els.length cf), .int .i64 place]] w _
  have hlR := hW.lt
  have S0 := Stp.alloc hW (stBox op text (.slice Ae exprs.length ce) (.slice Ab body.length cb) (.slice Af els.length cf) place)
  have HB := Lib.hid (heap_alloc_new w (stBox op text (.slice Ae exprs.length ce) (.slice Ab body.length cb) (.slice Af els.length cf) place))
  have hI1 := hI.kept hT0 S0.2.1
  have HTV : Hid (∀ u w', Stp R (w.alloc (stBox op text (.slice Ae exprs.length ce) (.slice Ab body.length cb) (.slice Af els.length cf) place)) u w' → StI R T exprs body els (.slice Ae exprs.length ce) (.slice Ab body.length cb) (.slice Af els.length cf) w') := fun u w' h => hI1.kept hT0 h.2.1
  have HS0 := Lib.hid S0
  have hll := hlen
  simp only [List.length_append] at hll
  have HLL := Lib.hid hll
  have K := Lib.hid (operationz R T hT0 exprs hE (.slice Ae exprs.length ce) ⟨#[112, 117, 116]⟩ [112, 117, 116] (by kernel_rfl) 2 2 rfl (t) (w.alloc (stBox op text (.slice Ae exprs.length ce) (.slice Ab body.length cb) (.slice Af els.length cf) place)) S0.1 hI1.1 hI1.2.1 (by simp only [List.length_append] at hll ⊢; omega))
  clear S0 hI1 hI hW hlen hll
  unfold stBox at *
  go_enter Tryd.func45, Tryd.ntmps45
  go_wp2_with fail
  generalize w.alloc (.cells #[.int .i64 op, .string (strN text), (.slice Ae exprs.length ce), (.slice Ab body.length cb), (.slice Af els.length cf), .int .i64 place] 43) = w1 at *
  (with_reducible refine K.out.mono ?_)
  clear K
  rintro e' w2 hp1
  have hr1 := hp1.1
  subst hr1
  have HS2 := Lib.hid ((Stp.start HS0.out.1).next hp1)
  clear hp1
  have hll := HLL.out
  have K := Lib.hid (put1z R ⟨#[59]⟩ [59] (t ++ opT [112, 117, 116] 2 (showL exprs)) w2 HS2.out.1 (by kernel_rfl) (by simp only [List.length_append] at hll ⊢; omega) w2.heap.size rfl)
  clear hll
  go_wp2_with fail
  (with_reducible refine K.out.mono ?_)
  clear K
  rintro e' w3 hp1
  have hr1 := hp1.1
  subst hr1
  have HS3 := Lib.hid (HS2.out.next hp1)
  clear hp1
  go_wp2
  go_end0
  have hfin := HS0.out.trans HS3.out
  refine Stp.puts ?_
  simpa using hfin
set_option maxHeartbeats 1600000 in
theorem stmt7 {R : Nat} {T : World → Prop} (hT0 : ∀ w w', T w → Below R w w' → T w') (op : Nat) (text : List Nat) (exprs : List Ex) (body els : List St) (place : Nat) (hop : op = 7) (hE : ∀ x ∈ exprs, ExprWr R T x) (hB : BlockWr R T body) (hL : BlockWr R T els) : StmtOk R T (.mk op text exprs body els place) := by
  intro k t w hW hT hVe hVb hVf hlen
  obtain ⟨E, B, F⟩ := k
  have hI : StI R T exprs body els E B F w := ⟨hT, hVe, hVb, hVf⟩
  obtain ⟨Ae, ce, rfl⟩ := exsC_slice hI.2.1
  obtain ⟨Ab, cb, rfl⟩ := stsC_sl hI.2.2.1
  obtain ⟨Af, cf, rfl⟩ := stsC_sl hI.2.2.2
  have hsh : showS (.mk op text exprs body els place) = opT [100, 101, 108] 1 (showL exprs) ++ [59] := by
    rw [showS_eq]
    subst hop
    rfl
  rw [hsh] at hlen ⊢
  have q1 : (((op : Nat) : Int) == 1) = false := by rw [hop]; rfl
  have q2 : (((op : Nat) : Int) == 2) = false := by rw [hop]; rfl
  have q3 : (((op : Nat) : Int) == 3) = false := by rw [hop]; rfl
  have q4 : (((op : Nat) : Int) == 4) = false := by rw [hop]; rfl
  have q5 : (((op : Nat) : Int) == 5) = false := by rw [hop]; rfl
  have q6 : (((op : Nat) : Int) == 6) = false := by rw [hop]; rfl
  have q7 : (((op : Nat) : Int) == 7) = true := by rw [hop]; rfl
  clear hsh hop hT hVe hVb hVf 
  change Calls Tryd.prog 45 #[.pointer (some ⟨R, 0, none⟩), .agg #[.int .i64 op, .string (strN text), (.slice Ae exprs.length ce), (.slice Ab body.length cb), (.slice Af els.length cf), .int .i64 place]] w _
  have hlR := hW.lt
  have S0 := Stp.alloc hW (stBox op text (.slice Ae exprs.length ce) (.slice Ab body.length cb) (.slice Af els.length cf) place)
  have HB := Lib.hid (heap_alloc_new w (stBox op text (.slice Ae exprs.length ce) (.slice Ab body.length cb) (.slice Af els.length cf) place))
  have hI1 := hI.kept hT0 S0.2.1
  have HTV : Hid (∀ u w', Stp R (w.alloc (stBox op text (.slice Ae exprs.length ce) (.slice Ab body.length cb) (.slice Af els.length cf) place)) u w' → StI R T exprs body els (.slice Ae exprs.length ce) (.slice Ab body.length cb) (.slice Af els.length cf) w') := fun u w' h => hI1.kept hT0 h.2.1
  have HS0 := Lib.hid S0
  have hll := hlen
  simp only [List.length_append] at hll
  have HLL := Lib.hid hll
  have K := Lib.hid (operationz R T hT0 exprs hE (.slice Ae exprs.length ce) ⟨#[100, 101, 108]⟩ [100, 101, 108] (by kernel_rfl) 1 1 rfl (t) (w.alloc (stBox op text (.slice Ae exprs.length ce) (.slice Ab body.length cb) (.slice Af els.length cf) place)) S0.1 hI1.1 hI1.2.1 (by simp only [List.length_append] at hll ⊢; omega))
  clear S0 hI1 hI hW hlen hll
  unfold stBox at *
  go_enter Tryd.func45, Tryd.ntmps45
  go_wp2_with fail
  generalize w.alloc (.cells #[.int .i64 op, .string (strN text), (.slice Ae exprs.length ce), (.slice Ab body.length cb), (.slice Af els.length cf), .int .i64 place] 43) = w1 at *
  (with_reducible refine K.out.mono ?_)
  clear K
  rintro e' w2 hp1
  have hr1 := hp1.1
  subst hr1
  have HS2 := Lib.hid ((Stp.start HS0.out.1).next hp1)
  clear hp1
  have hll := HLL.out
  have K := Lib.hid (put1z R ⟨#[59]⟩ [59] (t ++ opT [100, 101, 108] 1 (showL exprs)) w2 HS2.out.1 (by kernel_rfl) (by simp only [List.length_append] at hll ⊢; omega) w2.heap.size rfl)
  clear hll
  go_wp2_with fail
  (with_reducible refine K.out.mono ?_)
  clear K
  rintro e' w3 hp1
  have hr1 := hp1.1
  subst hr1
  have HS3 := Lib.hid (HS2.out.next hp1)
  clear hp1
  go_wp2
  go_end0
  have hfin := HS0.out.trans HS3.out
  refine Stp.puts ?_
  simpa using hfin
set_option maxHeartbeats 1600000 in
theorem stmt8 {R : Nat} {T : World → Prop} (hT0 : ∀ w w', T w → Below R w w' → T w') (op : Nat) (text : List Nat) (exprs : List Ex) (body els : List St) (place : Nat) (hop : op = 8) (hE : ∀ x ∈ exprs, ExprWr R T x) (hB : BlockWr R T body) (hL : BlockWr R T els) : StmtOk R T (.mk op text exprs body els place) := by
  intro k t w hW hT hVe hVb hVf hlen
  obtain ⟨E, B, F⟩ := k
  have hI : StI R T exprs body els E B F w := ⟨hT, hVe, hVb, hVf⟩
  obtain ⟨Ae, ce, rfl⟩ := exsC_slice hI.2.1
  obtain ⟨Ab, cb, rfl⟩ := stsC_sl hI.2.2.1
  obtain ⟨Af, cf, rfl⟩ := stsC_sl hI.2.2.2
  have hsh : showS (.mk op text exprs body els place) = atK (showL exprs) 0 ++ [59] := by
    rw [showS_eq]
    subst hop
    rfl
  rw [hsh] at hlen ⊢
  have q1 : (((op : Nat) : Int) == 1) = false := by rw [hop]; rfl
  have q2 : (((op : Nat) : Int) == 2) = false := by rw [hop]; rfl
  have q3 : (((op : Nat) : Int) == 3) = false := by rw [hop]; rfl
  have q4 : (((op : Nat) : Int) == 4) = false := by rw [hop]; rfl
  have q5 : (((op : Nat) : Int) == 5) = false := by rw [hop]; rfl
  have q6 : (((op : Nat) : Int) == 6) = false := by rw [hop]; rfl
  have q7 : (((op : Nat) : Int) == 7) = false := by rw [hop]; rfl
  have q8 : (((op : Nat) : Int) == 8) = true := by rw [hop]; rfl
  clear hsh hop hT hVe hVb hVf 
  change Calls Tryd.prog 45 #[.pointer (some ⟨R, 0, none⟩), .agg #[.int .i64 op, .string (strN text), (.slice Ae exprs.length ce), (.slice Ab body.length cb), (.slice Af els.length cf), .int .i64 place]] w _
  have hlR := hW.lt
  have S0 := Stp.alloc hW (stBox op text (.slice Ae exprs.length ce) (.slice Ab body.length cb) (.slice Af els.length cf) place)
  have HB := Lib.hid (heap_alloc_new w (stBox op text (.slice Ae exprs.length ce) (.slice Ab body.length cb) (.slice Af els.length cf) place))
  have hI1 := hI.kept hT0 S0.2.1
  have HTV : Hid (∀ u w', Stp R (w.alloc (stBox op text (.slice Ae exprs.length ce) (.slice Ab body.length cb) (.slice Af els.length cf) place)) u w' → StI R T exprs body els (.slice Ae exprs.length ce) (.slice Ab body.length cb) (.slice Af els.length cf) w') := fun u w' h => hI1.kept hT0 h.2.1
  have HS0 := Lib.hid S0
  have hll := hlen
  simp only [List.length_append] at hll
  have HLL := Lib.hid hll
  have K := Lib.hid (exprAtz R T exprs hE (.slice Ae exprs.length ce) 0 0 rfl (t) (w.alloc (stBox op text (.slice Ae exprs.length ce) (.slice Ab body.length cb) (.slice Af els.length cf) place)) S0.1 hI1.1 hI1.2.1 (by simp only [List.length_append] at hll ⊢; omega))
  clear S0 hI1 hI hW hlen hll
  unfold stBox at *
  go_enter Tryd.func45, Tryd.ntmps45
  go_wp2_with fail
  generalize w.alloc (.cells #[.int .i64 op, .string (strN text), (.slice Ae exprs.length ce), (.slice Ab body.length cb), (.slice Af els.length cf), .int .i64 place] 43) = w1 at *
  (with_reducible refine K.out.mono ?_)
  clear K
  rintro e' w2 hp1
  have hr1 := hp1.1
  subst hr1
  have HS2 := Lib.hid ((Stp.start HS0.out.1).next hp1)
  clear hp1
  have hll := HLL.out
  have K := Lib.hid (put1z R ⟨#[59]⟩ [59] (t ++ atK (showL exprs) 0) w2 HS2.out.1 (by kernel_rfl) (by simp only [List.length_append] at hll ⊢; omega) w2.heap.size rfl)
  clear hll
  go_wp2_with fail
  (with_reducible refine K.out.mono ?_)
  clear K
  rintro e' w3 hp1
  have hr1 := hp1.1
  subst hr1
  have HS3 := Lib.hid (HS2.out.next hp1)
  clear hp1
  go_wp2
  go_end0
  have hfin := HS0.out.trans HS3.out
  refine Stp.puts ?_
  simpa using hfin
set_option maxHeartbeats 1600000 in
theorem stmt0 {R : Nat} {T : World → Prop} (op : Nat) (text : List Nat) (exprs : List Ex) (body els : List St) (place : Nat) (hop : op = 0 ∨ 8 < op) : StmtOk R T (.mk op text exprs body els place) := by
  intro k t w hW hT hVe hVb hVf hlen
  obtain ⟨E, B, F⟩ := k
  have hI : StI R T exprs body els E B F w := ⟨hT, hVe, hVb, hVf⟩
  obtain ⟨Ae, ce, rfl⟩ := exsC_slice hI.2.1
  obtain ⟨Ab, cb, rfl⟩ := stsC_sl hI.2.2.1
  obtain ⟨Af, cf, rfl⟩ := stsC_sl hI.2.2.2
  have hsh : showS (.mk op text exprs body els place) = [] := by
    rw [showS_eq]
    show showSt op text (showL exprs) _ _ _ = _
    unfold showSt
    rw [if_neg (by omega), if_neg (by omega), if_neg (by omega), if_neg (by omega), if_neg (by omega), if_neg (by omega), if_neg (by omega), if_neg (by omega)]
  rw [hsh] at hlen ⊢
  have q1 : (((op : Nat) : Int) == 1) = false := by rw [beq_eq_false_iff_ne]; omega
  have q2 : (((op : Nat) : Int) == 2) = false := by rw [beq_eq_false_iff_ne]; omega
  have q3 : (((op : Nat) : Int) == 3) = false := by rw [beq_eq_false_iff_ne]; omega
  have q4 : (((op : Nat) : Int) == 4) = false := by rw [beq_eq_false_iff_ne]; omega
  have q5 : (((op : Nat) : Int) == 5) = false := by rw [beq_eq_false_iff_ne]; omega
  have q6 : (((op : Nat) : Int) == 6) = false := by rw [beq_eq_false_iff_ne]; omega
  have q7 : (((op : Nat) : Int) == 7) = false := by rw [beq_eq_false_iff_ne]; omega
  have q8 : (((op : Nat) : Int) == 8) = false := by rw [beq_eq_false_iff_ne]; omega
  have HS0 := Lib.hid (Stp.alloc hW (stBox op text (.slice Ae exprs.length ce) (.slice Ab body.length cb) (.slice Af els.length cf) place))
  clear hsh hop hT hVe hVb hVf hI hW hlen
  unfold stBox at *
  change Calls Tryd.prog 45 #[.pointer (some ⟨R, 0, none⟩), .agg #[.int .i64 op, .string (strN text), (.slice Ae exprs.length ce), (.slice Ab body.length cb), (.slice Af els.length cf), .int .i64 place]] w _
  go_enter Tryd.func45, Tryd.ntmps45
  go_wp2
  go_end0
  have hfin := HS0.out
  exact Stp.puts (by simpa using hfin)
end Go.Proofs.YtoicncfpoklanaaDoor
