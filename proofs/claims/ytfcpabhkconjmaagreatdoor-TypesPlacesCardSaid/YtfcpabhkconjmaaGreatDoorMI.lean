/- How many kids an expression must have, how many parts a statement. Conditions: what is handed in lies in memory. The first fault that a check finds in a row of things, each of some cells: of whatever check. Conditions: the row lies in memory, and the check keeps what it asks. A name in scope; an operand that must fit; operands that must all fit. Conditions: what is handed in lies in memory; what is known of an expression is a premise. Operands that must all fit; a name in scope. Conditions: what is handed in lies in memory; what is known of each expression is a premise. An expression with one kid, as the check has it. Conditions: what is handed in lies in memory; what is known of each kid is a premise. -/
import Derived.Test.YtfcpabhkconjmaaGreatDoorMH
import Derived.Deep.DeepCutAuto
namespace Go.Proofs.YtfcpabhkconjmaaGreatDoor
section
open Go.RowKit
set_option maxRecDepth 100000
set_option linter.unusedSimpArgs false
set_option linter.unusedVariables false

theorem beqI (n : Nat) (k : Nat) : ((n : Int) == (k : Int)) = (n == k) := by
  rw [Bool.eq_iff_iff, beq_iff_eq, beq_iff_eq]
  omega
theorem beqI0 (n : Nat) : ((n : Int) == 0) = (n == 0) := beqI n 0
theorem beqI1 (n : Nat) : ((n : Int) == 1) = (n == 1) := beqI n 1
theorem beqI2 (n : Nat) : ((n : Int) == 2) = (n == 2) := beqI n 2
theorem ne_beq {a b : Int} (h : ¬ a = b) : (a == b) = false := by rw [beq_eq_false_iff_ne]; exact h
theorem ne_beqN {n k : Nat} (h : ¬ n = k) : ((n : Int) == (k : Int)) = false := by rw [beqI, beq_eq_false_iff_ne]; exact h
set_option maxHeartbeats 400000 in
theorem kids_1 (num : Int) (text : List Nat) (A : Option Addr) (n c : Nat) (place : Int) (w : World) : Calls Tryz.prog 165 #[.agg #[.int .i64 1, .int .i64 num, .string (strN text), .slice A n c, .int .i64 place]] w fun e w' => e = .returned (.bool (hasKidsR 1 text n)) ∧ Below w.heap.size w w' := by
  go_enter Tryz.func165, Tryz.ntmps165
  go_wp2
  go_ret
  exact ⟨ret_b (beqI0 n), below_alloc _ _⟩
set_option maxHeartbeats 400000 in
theorem kids_2 (num : Int) (text : List Nat) (A : Option Addr) (n c : Nat) (place : Int) (w : World) : Calls Tryz.prog 165 #[.agg #[.int .i64 2, .int .i64 num, .string (strN text), .slice A n c, .int .i64 place]] w fun e w' => e = .returned (.bool (hasKidsR 2 text n)) ∧ Below w.heap.size w w' := by
  go_enter Tryz.func165, Tryz.ntmps165
  go_wp2
  go_ret
  exact ⟨ret_b (beqI0 n), below_alloc _ _⟩
set_option maxHeartbeats 400000 in
theorem kids_3 (num : Int) (text : List Nat) (A : Option Addr) (n c : Nat) (place : Int) (w : World) : Calls Tryz.prog 165 #[.agg #[.int .i64 3, .int .i64 num, .string (strN text), .slice A n c, .int .i64 place]] w fun e w' => e = .returned (.bool (hasKidsR 3 text n)) ∧ Below w.heap.size w w' := by
  go_enter Tryz.func165, Tryz.ntmps165
  go_wp2
  go_ret
  exact ⟨ret_b (beqI0 n), below_alloc _ _⟩
set_option maxHeartbeats 400000 in
theorem kids_4 (num : Int) (text : List Nat) (A : Option Addr) (n c : Nat) (place : Int) (w : World) : Calls Tryz.prog 165 #[.agg #[.int .i64 4, .int .i64 num, .string (strN text), .slice A n c, .int .i64 place]] w fun e w' => e = .returned (.bool (hasKidsR 4 text n)) ∧ Below w.heap.size w w' := by
  go_enter Tryz.func165, Tryz.ntmps165
  go_wp2
  go_ret
  exact ⟨ret_b (beqI0 n), below_alloc _ _⟩
set_option maxHeartbeats 400000 in
theorem kids_5 (num : Int) (text : List Nat) (A : Option Addr) (n c : Nat) (place : Int) (w : World) : Calls Tryz.prog 165 #[.agg #[.int .i64 5, .int .i64 num, .string (strN text), .slice A n c, .int .i64 place]] w fun e w' => e = .returned (.bool (hasKidsR 5 text n)) ∧ Below w.heap.size w w' := by
  go_enter Tryz.func165, Tryz.ntmps165
  go_wp2
  go_ret
  exact ⟨rfl, below_alloc _ _⟩
set_option maxHeartbeats 400000 in
theorem kids_8 (num : Int) (text : List Nat) (A : Option Addr) (n c : Nat) (place : Int) (w : World) : Calls Tryz.prog 165 #[.agg #[.int .i64 8, .int .i64 num, .string (strN text), .slice A n c, .int .i64 place]] w fun e w' => e = .returned (.bool (hasKidsR 8 text n)) ∧ Below w.heap.size w w' := by
  go_enter Tryz.func165, Tryz.ntmps165
  go_wp2
  go_ret
  exact ⟨ret_b (beqI1 n), below_alloc _ _⟩
set_option maxHeartbeats 400000 in
theorem kids_9 (num : Int) (text : List Nat) (A : Option Addr) (n c : Nat) (place : Int) (w : World) : Calls Tryz.prog 165 #[.agg #[.int .i64 9, .int .i64 num, .string (strN text), .slice A n c, .int .i64 place]] w fun e w' => e = .returned (.bool (hasKidsR 9 text n)) ∧ Below w.heap.size w w' := by
  go_enter Tryz.func165, Tryz.ntmps165
  go_wp2
  go_ret
  exact ⟨ret_b (beqI1 n), below_alloc _ _⟩
set_option maxHeartbeats 400000 in
theorem kids_10 (num : Int) (text : List Nat) (A : Option Addr) (n c : Nat) (place : Int) (w : World) : Calls Tryz.prog 165 #[.agg #[.int .i64 10, .int .i64 num, .string (strN text), .slice A n c, .int .i64 place]] w fun e w' => e = .returned (.bool (hasKidsR 10 text n)) ∧ Below w.heap.size w w' := by
  go_enter Tryz.func165, Tryz.ntmps165
  go_wp2
  go_ret
  exact ⟨ret_b (beqI1 n), below_alloc _ _⟩
set_option maxHeartbeats 800000 in
theorem kids_6 (num : Int) (text : List Nat) (A : Option Addr) (n c : Nat) (place : Int) (w : World) (ht : Byn text) : Calls Tryz.prog 165 #[.agg #[.int .i64 6, .int .i64 num, .string (strN text), .slice A n c, .int .i64 place]] w fun e w' => e = .returned (.bool (hasKidsR 6 text n)) ∧ Below w.heap.size w w' := by
  have KS := Lib.hid (signC text ht)
  have HB0 := Lib.hid (below_alloc w (.cells #[.int .i64 6, .int .i64 num, .string (strN text), .slice A n c, .int .i64 place] 46))
  have HE : Hid (hasKidsR 6 text n = (n == 2 && (signR text).isSome)) := rfl
  by_cases hn : n = 2
  · have q : ((n : Int) == 2) = true := by subst hn; rfl
    have HE2 : Hid (hasKidsR 6 text n = (signR text).isSome) := by show _ = _; rw [HE.out, hn]; rfl
    clear hn ht HE
    go_enter Tryz.func165, Tryz.ntmps165
    go_wp2_with fail
    generalize w.alloc (.cells #[.int .i64 6, .int .i64 num, .string (strN text), .slice A n c, .int .i64 place] 46) = w0 at *
    refine (KS.out _).mono ?_
    rintro e w1 (⟨g, hg, v1, v2, rfl, f1, f2, b1⟩ | ⟨hg, rfl, b1⟩)
    · have HB := Lib.hid (bthen5 HB0.out b1 HB0.out.size)
      have hr : hasKidsR 6 text n = true := by rw [HE2.out, hg]; rfl
      have HR := Lib.hid hr
      obtain ⟨fn1, caps1, D1, rfl, _⟩ := f1
      obtain ⟨fn2, caps2, D2, rfl, _⟩ := f2
      clear hg b1 hr KS HB0
      go_wp2_with (refine wpList_storeN info187s rfl (.tmp 4) (.tmp 26) rfl rfl w1.heap.size rfl [_, _] rfl rfl (there_cells (cs := [_, _]) (heap_alloc_new w1 _) rfl) (by simp [Value.oneCell']) ?_; intro w2 g1 g2 g3 g4 g5)
      go_ret
      exact ⟨by rw [HR.out]; rfl, HB.out.trans (((below_alloc w1 opO).trans g3).mono HB.out.size)⟩
    · have HB := Lib.hid (bthen5 HB0.out b1 HB0.out.size)
      have hr : hasKidsR 6 text n = false := by rw [HE2.out, hg]; rfl
      have HR := Lib.hid hr
      clear hg b1 hr KS HB0
      go_wp2_with (refine wpList_storeN info187s rfl (.tmp 4) (.tmp 26) rfl rfl w1.heap.size rfl [_, _] rfl rfl (there_cells (cs := [_, _]) (heap_alloc_new w1 _) rfl) (by simp [Value.oneCell']) ?_; intro w2 g1 g2 g3 g4 g5)
      go_ret
      exact ⟨by rw [HR.out]; rfl, HB.out.trans (((below_alloc w1 opO).trans g3).mono HB.out.size)⟩
  · have q : ((n : Int) == 2) = false := ne_beqN hn
    have HE2 : Hid (hasKidsR 6 text n = false) := by show _ = _; rw [HE.out, show (n == 2) = false by rw [beq_eq_false_iff_ne]; exact hn]; rfl
    clear hn ht HE
    go_enter Tryz.func165, Tryz.ntmps165
    go_wp2_with fail
    generalize w.alloc (.cells #[.int .i64 6, .int .i64 num, .string (strN text), .slice A n c, .int .i64 place] 46) = w0 at *
    refine (KS.out _).mono ?_
    rintro e w1 (⟨g, hg, v1, v2, rfl, f1, f2, b1⟩ | ⟨hg, rfl, b1⟩)
    · have HB := Lib.hid (bthen5 HB0.out b1 HB0.out.size)
      obtain ⟨fn1, caps1, D1, rfl, _⟩ := f1
      obtain ⟨fn2, caps2, D2, rfl, _⟩ := f2
      clear hg b1 KS HB0
      go_wp2_with (refine wpList_storeN info187s rfl (.tmp 4) (.tmp 26) rfl rfl w1.heap.size rfl [_, _] rfl rfl (there_cells (cs := [_, _]) (heap_alloc_new w1 _) rfl) (by simp [Value.oneCell']) ?_; intro w2 g1 g2 g3 g4 g5)
      go_ret
      exact ⟨by rw [HE2.out]; rfl, HB.out.trans (((below_alloc w1 opO).trans g3).mono HB.out.size)⟩
    · have HB := Lib.hid (bthen5 HB0.out b1 HB0.out.size)
      clear hg b1 KS HB0
      go_wp2_with (refine wpList_storeN info187s rfl (.tmp 4) (.tmp 26) rfl rfl w1.heap.size rfl [_, _] rfl rfl (there_cells (cs := [_, _]) (heap_alloc_new w1 _) rfl) (by simp [Value.oneCell']) ?_; intro w2 g1 g2 g3 g4 g5)
      go_ret
      exact ⟨by rw [HE2.out]; rfl, HB.out.trans (((below_alloc w1 opO).trans g3).mono HB.out.size)⟩
set_option maxHeartbeats 800000 in
theorem kids_7 (num : Int) (text : List Nat) (A : Option Addr) (n c : Nat) (place : Int) (w : World) (ht : Byn text) : Calls Tryz.prog 165 #[.agg #[.int .i64 7, .int .i64 num, .string (strN text), .slice A n c, .int .i64 place]] w fun e w' => e = .returned (.bool (hasKidsR 7 text n)) ∧ Below w.heap.size w w' := by
  have q1 := eqLit ht [45] (by unfold Byn; decide)
  have q2 := eqLit ht [33] (by unfold Byn; decide)
  have HE : Hid (hasKidsR 7 text n = (n == 1 && (text == [45] || text == [33]))) := rfl
  have p1 : ((strN text).toList == [45]) = decide (text = [45]) := q1
  have p2 : ((strN text).toList == [33]) = decide (text = [33]) := q2
  clear q1 q2 ht
  by_cases hn : n = 1
  · have q : ((n : Int) == 1) = true := by subst hn; rfl
    by_cases h1 : text = [45]
    · rw [decide_eq_true h1] at p1
      have HE2 : Hid (hasKidsR 7 text n = true) := by show _ = _; rw [HE.out, hn, h1]; rfl
      clear hn h1 HE p2
      go_enter Tryz.func165, Tryz.ntmps165
      go_wp2
      go_ret
      exact ⟨by rw [HE2.out]; rfl, below_alloc _ _⟩
    · rw [decide_eq_false h1] at p1
      have h3 : (text == [45]) = false := by rw [beq_eq_false_iff_ne]; exact h1
      have HE2 : Hid (hasKidsR 7 text n = (text == [33])) := by show _ = _; rw [HE.out, hn, h3]; rfl
      have HP : Hid (((strN text).toList == [33]) = (text == [33])) := by
        show _ = _
        rw [p2, Bool.eq_iff_iff, decide_eq_true_eq, beq_iff_eq]
      clear hn h1 h3 HE p2
      go_enter Tryz.func165, Tryz.ntmps165
      go_wp2
      go_ret
      exact ⟨by rw [HE2.out]; exact ret_b HP.out, below_alloc _ _⟩
  · have q : ((n : Int) == 1) = false := ne_beqN hn
    have HE2 : Hid (hasKidsR 7 text n = false) := by show _ = _; rw [HE.out, show (n == 1) = false by rw [beq_eq_false_iff_ne]; exact hn]; rfl
    clear hn HE p1 p2
    go_enter Tryz.func165, Tryz.ntmps165
    go_wp2
    go_ret
    exact ⟨by rw [HE2.out]; rfl, below_alloc _ _⟩
set_option maxHeartbeats 800000 in
theorem kids_other (op num : Int) (text : List Nat) (A : Option Addr) (n c : Nat) (place : Int) (w : World) (hn : ∀ k : Nat, 1 ≤ k → k ≤ 10 → ¬ op = k) : Calls Tryz.prog 165 #[.agg #[.int .i64 op, .int .i64 num, .string (strN text), .slice A n c, .int .i64 place]] w fun e w' => e = .returned (.bool (hasKidsR op text n)) ∧ Below w.heap.size w w' := by
  have q1 : (op == 1) = false := ne_beq (hn 1 (by omega) (by omega))
  have q2 : (op == 2) = false := ne_beq (hn 2 (by omega) (by omega))
  have q3 : (op == 3) = false := ne_beq (hn 3 (by omega) (by omega))
  have q4 : (op == 4) = false := ne_beq (hn 4 (by omega) (by omega))
  have q5 : (op == 5) = false := ne_beq (hn 5 (by omega) (by omega))
  have q6 : (op == 6) = false := ne_beq (hn 6 (by omega) (by omega))
  have q7 : (op == 7) = false := ne_beq (hn 7 (by omega) (by omega))
  have q8 : (op == 8) = false := ne_beq (hn 8 (by omega) (by omega))
  have q9 : (op == 9) = false := ne_beq (hn 9 (by omega) (by omega))
  have q10 : (op == 10) = false := ne_beq (hn 10 (by omega) (by omega))
  have HE : Hid (hasKidsR op text n = false) := by
    show _ = _
    have := fun k h1 h2 => hn k h1 h2
    simp only [beq_eq_false_iff_ne] at q1 q2 q3 q4 q5 q6 q7 q8 q9 q10
    unfold hasKidsR
    rw [if_neg (by omega), if_neg (by omega), if_neg (by omega), if_neg (by omega), if_neg (by omega)]
  clear hn
  go_enter Tryz.func165, Tryz.ntmps165
  go_wp2
  go_ret
  exact ⟨by rw [HE.out]; rfl, below_alloc _ _⟩
theorem hasKidsC (op num : Int) (text : List Nat) (A : Option Addr) (n c : Nat) (place : Int) (w : World) (ht : Byn text) : Calls Tryz.prog 165 #[.agg #[.int .i64 op, .int .i64 num, .string (strN text), .slice A n c, .int .i64 place]] w fun e w' => e = .returned (.bool (hasKidsR op text n)) ∧ Below w.heap.size w w' := by
  by_cases h1 : op = 1
  · subst h1
    exact kids_1 num text A n c place w
  by_cases h2 : op = 2
  · subst h2
    exact kids_2 num text A n c place w
  by_cases h3 : op = 3
  · subst h3
    exact kids_3 num text A n c place w
  by_cases h4 : op = 4
  · subst h4
    exact kids_4 num text A n c place w
  by_cases h5 : op = 5
  · subst h5
    exact kids_5 num text A n c place w
  by_cases h6 : op = 6
  · subst h6
    exact kids_6 num text A n c place w ht
  by_cases h7 : op = 7
  · subst h7
    exact kids_7 num text A n c place w ht
  by_cases h8 : op = 8
  · subst h8
    exact kids_8 num text A n c place w
  by_cases h9 : op = 9
  · subst h9
    exact kids_9 num text A n c place w
  by_cases h10 : op = 10
  · subst h10
    exact kids_10 num text A n c place w
  exact kids_other op num text A n c place w (by
    intro k h1 h2 e
    have : k = 1 ∨ k = 2 ∨ k = 3 ∨ k = 4 ∨ k = 5 ∨ k = 6 ∨ k = 7 ∨ k = 8 ∨ k = 9 ∨ k = 10 := by omega
    omega)
end

section
open Go.RowKit
set_option maxRecDepth 100000
set_option linter.unusedSimpArgs false
set_option linter.unusedVariables false

theorem RowF.plain5 {w : World} {D : Nat → Prop} {n : Nat} {xs : List Value} {V : Value} (h : RowF w D n xs V) (hx : xs ≠ []) : ∃ b o c, V = .slice (some ⟨b, o, none⟩) n c ∧ n ≤ c ∧ c ≤ maxLen ∧ D b ∧ w.rangeAt b o xs := by
  obtain ⟨A, c, rfl, h2, h3, h4, h5⟩ := h
  cases xs with
  | nil => exact absurd rfl hx
  | cons x r =>
    obtain ⟨ad, rfl, hD, hc⟩ := h5 0 x rfl
    have hs : ad.spot = none := by
      unfold World.cell? at hc
      rw [show ad.add 0 = ad from rfl] at hc
      split at hc
      · split at hc
        · cases hc
        · rename_i hh
          cases hsp : ad.spot with
          | none => rfl
          | some q => rw [hsp] at hh; simp at hh
      · cases hc
    obtain ⟨b, o, sp⟩ := ad
    simp at hs
    subst hs
    refine ⟨b, o, c, rfl, h2, h3, hD, fun j v hv => ?_⟩
    obtain ⟨ad', e, _, hc'⟩ := h5 j v hv
    injection e with e
    subst e
    rw [Addr.add_lit] at hc'
    exact hc'
theorem RowF.slice5 {w : World} {D : Nat → Prop} {n : Nat} {xs : List Value} {V : Value} (h : RowF w D n xs V) : ∃ A c, V = .slice A n c := by
  obtain ⟨A, c, h1, _⟩ := h
  exact ⟨A, c, h1⟩
theorem RowF.len5 {w : World} {D : Nat → Prop} {n : Nat} {xs : List Value} {V : Value} (h : RowF w D n xs V) : n ≤ 9223372036854775807 := by
  obtain ⟨A, c, h1, h2, h3, _⟩ := h
  unfold maxLen at h3
  omega
theorem flat_get {α : Type} {cel : α → List Value} {n : Nat} (hc : ∀ a, (cel a).length = n) : ∀ (l : List α) (i j : Nat) (a : α), l[i]? = some a → j < n → (l.flatMap cel)[i * n + j]? = (cel a)[j]?
  | [], i, j, a, h, _ => by simp at h
  | x :: l, 0, j, a, h, hj => by
    simp at h
    subst h
    rw [List.flatMap_cons, List.getElem?_append_left (by rw [hc]; omega)]
    simp
  | x :: l, i + 1, j, a, h, hj => by
    have ih := flat_get hc l i j a (by simpa using h) hj
    rw [List.flatMap_cons, List.getElem?_append_right (by rw [hc, Nat.succ_mul]; omega)]
    rw [show (i + 1) * n + j - (cel x).length = i * n + j by rw [hc, Nat.succ_mul]; omega]
    exact ih
theorem runL_cons {σ α : Type} (step : σ → α → Er × σ) (s : σ) (a : α) (l : List α) : runL step s (a :: l) = (match step s a with | (some e, s') => (some e, s') | (none, s') => runL step s' l) := rfl
theorem runL_none {σ α : Type} {step : σ → α → Er × σ} {s : σ} {a : α} {l : List α} (h : (step s a).1 = none) : runL step s (a :: l) = runL step (step s a).2 l := by
  rw [runL_cons]
  rcases hs : step s a with ⟨_ | e, s'⟩
  · rfl
  · rw [hs] at h; cases h
theorem runL_some {σ α : Type} {step : σ → α → Er × σ} {s : σ} {a : α} {l : List α} {e : Int × Int} (h : (step s a).1 = some e) : (runL step s (a :: l)).1 = some e := by
  rw [runL_cons]
  rcases hs : step s a with ⟨_ | e', s'⟩
  · rw [hs] at h; cases h
  · rw [hs] at h; exact h
theorem info46f : (Tryz.prog.info? 46).map (·.size) = some 5 := by kernel_rfl
set_option maxHeartbeats 1600000 in
theorem firstX {σ α : Type} (step : σ → α → Er × σ) (c0 c1 c2 c3 c4 : α → Value) (I : σ → World → Prop) (ro : Option Nat) (l : List α) (V : Value) (B : Nat) (fn : Nat) (caps : Array Value) (he : Ent fn)
    (hI : ∀ s w w', I s w → Below w.heap.size w w' → I s w')
    (hrow : ∀ s w, I s w → RowF w (Lo B) l.length (l.flatMap fun a => [c0 a, c1 a, c2 a, c3 a, c4 a]) V)
    (hone : ∀ a ∈ l, ∀ u ∈ [c0 a, c1 a, c2 a, c3 a, c4 a], u.oneCell' = true)
    (hf : ∀ s a w, a ∈ l → I s w → Calls Tryz.prog fn (#[.agg #[c0 a, c1 a, c2 a, c3 a, c4 a]] ++ caps) w fun e w' => FOut (step s a).1 e w' ∧ ((step s a).1 = none → I (step s a).2 w') ∧ w.grownBy w' ro)
    (s : σ) (w : World) (h : I s w) :
    Calls Tryz.prog 143 #[V, .func (.func fn) #[] caps] w fun e w' => FOut (runL step s l).1 e w' ∧ ((runL step s l).1 = none → I (runL step s l).2 w') ∧ w.grownBy w' ro := by
  have he' : ∀ (args : Array Value) (w : World), (callFunc fn args).run Tryz.prog w = .ok (.enter fn args) w := he
  obtain ⟨A, c, rfl⟩ := (hrow s w h).slice5
  have hmx := (hrow s w h).len5
  have HI := Lib.hid hI
  have HR := Lib.hid hrow
  have HO := Lib.hid hone
  have HF := Lib.hid hf
  have H0 := Lib.hid h
  clear hI hrow hone hf h
  go_enter Tryz.func143, Tryz.ntmps143
  go_wp2
  go_loopw [6, 7, 10] (fun _ _ i wr => ∃ (k : Nat) (s' : σ), k ≤ l.length ∧ i = .int .i64 k ∧ Hid (I s' wr ∧ w.grownBy wr ro ∧ runL step s l = runL step s' (l.drop k))) (fun _ _ i _ => l.length - (intOf i).toNat)
  case atStart => exact ⟨0, s, Nat.zero_le _, rfl, H0.out, World.grownBy.refl _ _, rfl⟩
  case round =>
    obtain ⟨k, s', hk, rfl, HRel⟩ := hrel
    by_cases hlt : k < l.length
    · obtain ⟨a, ha⟩ : ∃ a, l[k]? = some a := ⟨_, List.getElem?_eq_getElem hlt⟩
      have hmem : a ∈ l := List.mem_of_getElem? ha
      have hget := fun j hj => flat_get (cel := fun a => [c0 a, c1 a, c2 a, c3 a, c4 a]) (n := 5) (fun _ => rfl) l k j a ha hj
      obtain ⟨b, o, c', hV, a1, a2, a3, a4⟩ := (HR.out s' wr HRel.out.1).plain5 (by
        intro e0
        have := hget 0 (by omega)
        rw [e0] at this
        simp at this)
      injection hV with hV1 hV2 hV3
      subst hV1 hV3
      have hrg : wr.rangeAt b (o + k * 5) [c0 a, c1 a, c2 a, c3 a, c4 a] := fun j v hv => by
        have hj : j < 5 := by
          have := (List.getElem?_eq_some_iff.1 hv).1
          simpa using this
        rw [Nat.add_assoc]
        exact a4 _ v ((hget j hj).trans hv)
      have HRG := Lib.hid hrg
      have hdrop : l.drop k = a :: l.drop (k + 1) := by
        rw [List.drop_eq_getElem_cons hlt]
        rw [List.getElem?_eq_getElem hlt] at ha
        injection ha with ha
        rw [ha]
      have HD := Lib.hid hdrop
      have hon := HO.out a hmem
      have HK : Hid (∀ w1, Below wr.heap.size wr w1 → Calls Tryz.prog fn (#[.agg #[c0 a, c1 a, c2 a, c3 a, c4 a]] ++ caps) w1 fun e w' => FOut (step s' a).1 e w' ∧ ((step s' a).1 = none → I (step s' a).2 w') ∧ w1.grownBy w' ro) := fun w1 hb => HF.out s' a w1 hmem (HI.out s' wr w1 HRel.out.1 hb)
      unfold maxLen at a2
      clear hV2 a3 a4 hget hrg hdrop ha hmem HF HO HR H0
      go_wp2_with (first | (refine wpList_load_mid rfl 46 (.tmp 12) rfl b (o + k * 5) rfl [c0 a, c1 a, c2 a, c3 a, c4 a] _ HRG.out Tryz.underlying46 rfl info46f ?_; refine Hid.out ?_) | fail)
      refine Lib.hid ?_
      go_wp2_with (refine wpList_storeN info46f rfl (.tmp 6) (.tmp 13) rfl rfl wr.heap.size rfl [c0 a, c1 a, c2 a, c3 a, c4 a] rfl rfl (there_cells (cs := [_, _, _, _, _]) (heap_alloc_new wr _) rfl) hon ?_; intro w2 g1 g2 g3 g4 g5; refine Hid.out ?_)
      refine Lib.hid ?_
      have G1 := Lib.hid g1
      have B2 := Lib.hid ((below_alloc wr (.cells #[_, _, _, _, _] 46)).trans g3)
      clear g1 g2 g3 g4 g5
      go_wp2_with (first | (refine wpList_load_mid rfl 46 (.tmp 6) rfl wr.heap.size 0 rfl [c0 a, c1 a, c2 a, c3 a, c4 a] _ G1.out Tryz.underlying46 rfl info46f ?_; refine Hid.out ?_) | fail)
      refine Lib.hid ?_
      go_wp2_with fail
      refine (HK.out _ B2.out).mono ?_
      clear HK
      rintro e w3 ⟨⟨v, rfl, hv⟩, hn, hg⟩
      have HN := Lib.hid hn
      have HG : Hid (w.grownBy w3 ro) := grown_trans HRel.out.2.1 (grown_trans (grown_any B2.out ro) hg)
      clear hn hg hon
      cases hst : (step s' a).1 with
      | none =>
        rw [hst] at hv
        obtain rfl : v = .pointer none := hv
        have HE : Hid (runL step s l = runL step (step s' a).2 (l.drop (k + 1))) := HRel.out.2.2.trans (by rw [HD.out]; exact runL_none hst)
        have HN2 : Hid (I (step s' a).2 w3) := HN.out hst
        clear hst HN HRel HD
        go_wp2
        go_roundw
        case rel => exact ⟨k + 1, (step s' a).2, by omega, by go_num, HN2.out, HG.out, HE.out⟩
        case measure => simp [intOf]; omega
      | some er =>
        rw [hst] at hv
        have HV := Lib.hid hv
        have HE : Hid ((runL step s l).1 = some er) := by show _ = _; rw [HRel.out.2.2, HD.out]; exact runL_some hst
        obtain ⟨b', rfl, hb'⟩ := hv
        clear hst HN HRel HD hb'
        go_wp2
        go_ret
        exact ⟨⟨_, rfl, by rw [HE.out]; exact HV.out⟩, fun h => (by rw [HE.out] at h; cases h), HG.out⟩
    · obtain rfl : k = l.length := by omega
      have HT : Hid (runL step s l = (none, s')) := HRel.out.2.2.trans (by rw [List.drop_length]; rfl)
      have HZ : Hid (I s' wr ∧ w.grownBy wr ro) := ⟨HRel.out.1, HRel.out.2.1⟩
      clear HRel
      go_wp2
      go_ret
      exact ⟨⟨_, rfl, by rw [HT.out]; rfl⟩, fun _ => by rw [HT.out]; exact HZ.out.1, HZ.out.2⟩
theorem info52f : (Tryz.prog.info? 52).map (·.size) = some 2 := by kernel_rfl
set_option maxHeartbeats 1600000 in
theorem firstP {σ α : Type} (step : σ → α → Er × σ) (c0 c1 : α → Value) (I : σ → World → Prop) (ro : Option Nat) (l : List α) (V : Value) (B : Nat) (fn : Nat) (caps : Array Value) (he : Ent fn)
    (hI : ∀ s w w', I s w → Below w.heap.size w w' → I s w')
    (hrow : ∀ s w, I s w → RowF w (Lo B) l.length (l.flatMap fun a => [c0 a, c1 a]) V)
    (hone : ∀ a ∈ l, ∀ u ∈ [c0 a, c1 a], u.oneCell' = true)
    (hf : ∀ s a w, a ∈ l → I s w → Calls Tryz.prog fn (#[.agg #[c0 a, c1 a]] ++ caps) w fun e w' => FOut (step s a).1 e w' ∧ ((step s a).1 = none → I (step s a).2 w') ∧ w.grownBy w' ro)
    (s : σ) (w : World) (h : I s w) :
    Calls Tryz.prog 100 #[V, .func (.func fn) #[] caps] w fun e w' => FOut (runL step s l).1 e w' ∧ ((runL step s l).1 = none → I (runL step s l).2 w') ∧ w.grownBy w' ro := by
  have he' : ∀ (args : Array Value) (w : World), (callFunc fn args).run Tryz.prog w = .ok (.enter fn args) w := he
  obtain ⟨A, c, rfl⟩ := (hrow s w h).slice5
  have hmx := (hrow s w h).len5
  have HI := Lib.hid hI
  have HR := Lib.hid hrow
  have HO := Lib.hid hone
  have HF := Lib.hid hf
  have H0 := Lib.hid h
  clear hI hrow hone hf h
  go_enter Tryz.func100, Tryz.ntmps100
  go_wp2
  go_loopw [6, 7, 10] (fun _ _ i wr => ∃ (k : Nat) (s' : σ), k ≤ l.length ∧ i = .int .i64 k ∧ Hid (I s' wr ∧ w.grownBy wr ro ∧ runL step s l = runL step s' (l.drop k))) (fun _ _ i _ => l.length - (intOf i).toNat)
  case atStart => exact ⟨0, s, Nat.zero_le _, rfl, H0.out, World.grownBy.refl _ _, rfl⟩
  case round =>
    obtain ⟨k, s', hk, rfl, HRel⟩ := hrel
    by_cases hlt : k < l.length
    · obtain ⟨a, ha⟩ : ∃ a, l[k]? = some a := ⟨_, List.getElem?_eq_getElem hlt⟩
      have hmem : a ∈ l := List.mem_of_getElem? ha
      have hget := fun j hj => flat_get (cel := fun a => [c0 a, c1 a]) (n := 2) (fun _ => rfl) l k j a ha hj
      obtain ⟨b, o, c', hV, a1, a2, a3, a4⟩ := (HR.out s' wr HRel.out.1).plain5 (by
        intro e0
        have := hget 0 (by omega)
        rw [e0] at this
        simp at this)
      injection hV with hV1 hV2 hV3
      subst hV1 hV3
      have hrg : wr.rangeAt b (o + k * 2) [c0 a, c1 a] := fun j v hv => by
        have hj : j < 2 := by
          have := (List.getElem?_eq_some_iff.1 hv).1
          simpa using this
        rw [Nat.add_assoc]
        exact a4 _ v ((hget j hj).trans hv)
      have HRG := Lib.hid hrg
      have hdrop : l.drop k = a :: l.drop (k + 1) := by
        rw [List.drop_eq_getElem_cons hlt]
        rw [List.getElem?_eq_getElem hlt] at ha
        injection ha with ha
        rw [ha]
      have HD := Lib.hid hdrop
      have hon := HO.out a hmem
      have HK : Hid (∀ w1, Below wr.heap.size wr w1 → Calls Tryz.prog fn (#[.agg #[c0 a, c1 a]] ++ caps) w1 fun e w' => FOut (step s' a).1 e w' ∧ ((step s' a).1 = none → I (step s' a).2 w') ∧ w1.grownBy w' ro) := fun w1 hb => HF.out s' a w1 hmem (HI.out s' wr w1 HRel.out.1 hb)
      unfold maxLen at a2
      clear hV2 a3 a4 hget hrg hdrop ha hmem HF HO HR H0
      go_wp2_with (first | (refine wpList_load_mid rfl 52 (.tmp 12) rfl b (o + k * 2) rfl [c0 a, c1 a] _ HRG.out Tryz.underlying52 rfl info52f ?_; refine Hid.out ?_) | fail)
      refine Lib.hid ?_
      go_wp2_with (refine wpList_storeN info52f rfl (.tmp 6) (.tmp 13) rfl rfl wr.heap.size rfl [c0 a, c1 a] rfl rfl (there_cells (cs := [_, _]) (heap_alloc_new wr _) rfl) hon ?_; intro w2 g1 g2 g3 g4 g5; refine Hid.out ?_)
      refine Lib.hid ?_
      have G1 := Lib.hid g1
      have B2 := Lib.hid ((below_alloc wr (.cells #[_, _] 52)).trans g3)
      clear g1 g2 g3 g4 g5
      go_wp2_with (first | (refine wpList_load_mid rfl 52 (.tmp 6) rfl wr.heap.size 0 rfl [c0 a, c1 a] _ G1.out Tryz.underlying52 rfl info52f ?_; refine Hid.out ?_) | fail)
      refine Lib.hid ?_
      go_wp2_with fail
      refine (HK.out _ B2.out).mono ?_
      clear HK
      rintro e w3 ⟨⟨v, rfl, hv⟩, hn, hg⟩
      have HN := Lib.hid hn
      have HG : Hid (w.grownBy w3 ro) := grown_trans HRel.out.2.1 (grown_trans (grown_any B2.out ro) hg)
      clear hn hg hon
      cases hst : (step s' a).1 with
      | none =>
        rw [hst] at hv
        obtain rfl : v = .pointer none := hv
        have HE : Hid (runL step s l = runL step (step s' a).2 (l.drop (k + 1))) := HRel.out.2.2.trans (by rw [HD.out]; exact runL_none hst)
        have HN2 : Hid (I (step s' a).2 w3) := HN.out hst
        clear hst HN HRel HD
        go_wp2
        go_roundw
        case rel => exact ⟨k + 1, (step s' a).2, by omega, by go_num, HN2.out, HG.out, HE.out⟩
        case measure => simp [intOf]; omega
      | some er =>
        rw [hst] at hv
        have HV := Lib.hid hv
        have HE : Hid ((runL step s l).1 = some er) := by show _ = _; rw [HRel.out.2.2, HD.out]; exact runL_some hst
        obtain ⟨b', rfl, hb'⟩ := hv
        clear hst HN HRel HD hb'
        go_wp2
        go_ret
        exact ⟨⟨_, rfl, by rw [HE.out]; exact HV.out⟩, fun h => (by rw [HE.out] at h; cases h), HG.out⟩
    · obtain rfl : k = l.length := by omega
      have HT : Hid (runL step s l = (none, s')) := HRel.out.2.2.trans (by rw [List.drop_length]; rfl)
      have HZ : Hid (I s' wr ∧ w.grownBy wr ro) := ⟨HRel.out.1, HRel.out.2.1⟩
      clear HRel
      go_wp2
      go_ret
      exact ⟨⟨_, rfl, by rw [HT.out]; rfl⟩, fun _ => by rw [HT.out]; exact HZ.out.1, HZ.out.2⟩
theorem info48f : (Tryz.prog.info? 48).map (·.size) = some 6 := by kernel_rfl
set_option maxHeartbeats 1600000 in
theorem firstS {σ α : Type} (step : σ → α → Er × σ) (c0 c1 c2 c3 c4 c5 : α → Value) (I : σ → World → Prop) (ro : Option Nat) (l : List α) (V : Value) (B : Nat) (fn : Nat) (caps : Array Value) (he : Ent fn)
    (hI : ∀ s w w', I s w → Below w.heap.size w w' → I s w')
    (hrow : ∀ s w, I s w → RowF w (Lo B) l.length (l.flatMap fun a => [c0 a, c1 a, c2 a, c3 a, c4 a, c5 a]) V)
    (hone : ∀ a ∈ l, ∀ u ∈ [c0 a, c1 a, c2 a, c3 a, c4 a, c5 a], u.oneCell' = true)
    (hf : ∀ s a w, a ∈ l → I s w → Calls Tryz.prog fn (#[.agg #[c0 a, c1 a, c2 a, c3 a, c4 a, c5 a]] ++ caps) w fun e w' => FOut (step s a).1 e w' ∧ ((step s a).1 = none → I (step s a).2 w') ∧ w.grownBy w' ro)
    (s : σ) (w : World) (h : I s w) :
    Calls Tryz.prog 103 #[V, .func (.func fn) #[] caps] w fun e w' => FOut (runL step s l).1 e w' ∧ ((runL step s l).1 = none → I (runL step s l).2 w') ∧ w.grownBy w' ro := by
  have he' : ∀ (args : Array Value) (w : World), (callFunc fn args).run Tryz.prog w = .ok (.enter fn args) w := he
  obtain ⟨A, c, rfl⟩ := (hrow s w h).slice5
  have hmx := (hrow s w h).len5
  have HI := Lib.hid hI
  have HR := Lib.hid hrow
  have HO := Lib.hid hone
  have HF := Lib.hid hf
  have H0 := Lib.hid h
  clear hI hrow hone hf h
  go_enter Tryz.func103, Tryz.ntmps103
  go_wp2
  go_loopw [6, 7, 10] (fun _ _ i wr => ∃ (k : Nat) (s' : σ), k ≤ l.length ∧ i = .int .i64 k ∧ Hid (I s' wr ∧ w.grownBy wr ro ∧ runL step s l = runL step s' (l.drop k))) (fun _ _ i _ => l.length - (intOf i).toNat)
  case atStart => exact ⟨0, s, Nat.zero_le _, rfl, H0.out, World.grownBy.refl _ _, rfl⟩
  case round =>
    obtain ⟨k, s', hk, rfl, HRel⟩ := hrel
    by_cases hlt : k < l.length
    · obtain ⟨a, ha⟩ : ∃ a, l[k]? = some a := ⟨_, List.getElem?_eq_getElem hlt⟩
      have hmem : a ∈ l := List.mem_of_getElem? ha
      have hget := fun j hj => flat_get (cel := fun a => [c0 a, c1 a, c2 a, c3 a, c4 a, c5 a]) (n := 6) (fun _ => rfl) l k j a ha hj
      obtain ⟨b, o, c', hV, a1, a2, a3, a4⟩ := (HR.out s' wr HRel.out.1).plain5 (by
        intro e0
        have := hget 0 (by omega)
        rw [e0] at this
        simp at this)
      injection hV with hV1 hV2 hV3
      subst hV1 hV3
      have hrg : wr.rangeAt b (o + k * 6) [c0 a, c1 a, c2 a, c3 a, c4 a, c5 a] := fun j v hv => by
        have hj : j < 6 := by
          have := (List.getElem?_eq_some_iff.1 hv).1
          simpa using this
        rw [Nat.add_assoc]
        exact a4 _ v ((hget j hj).trans hv)
      have HRG := Lib.hid hrg
      have hdrop : l.drop k = a :: l.drop (k + 1) := by
        rw [List.drop_eq_getElem_cons hlt]
        rw [List.getElem?_eq_getElem hlt] at ha
        injection ha with ha
        rw [ha]
      have HD := Lib.hid hdrop
      have hon := HO.out a hmem
      have HK : Hid (∀ w1, Below wr.heap.size wr w1 → Calls Tryz.prog fn (#[.agg #[c0 a, c1 a, c2 a, c3 a, c4 a, c5 a]] ++ caps) w1 fun e w' => FOut (step s' a).1 e w' ∧ ((step s' a).1 = none → I (step s' a).2 w') ∧ w1.grownBy w' ro) := fun w1 hb => HF.out s' a w1 hmem (HI.out s' wr w1 HRel.out.1 hb)
      unfold maxLen at a2
      clear hV2 a3 a4 hget hrg hdrop ha hmem HF HO HR H0
      go_wp2_with (first | (refine wpList_load_mid rfl 48 (.tmp 12) rfl b (o + k * 6) rfl [c0 a, c1 a, c2 a, c3 a, c4 a, c5 a] _ HRG.out Tryz.underlying48 rfl info48f ?_; refine Hid.out ?_) | fail)
      refine Lib.hid ?_
      go_wp2_with (refine wpList_storeN info48f rfl (.tmp 6) (.tmp 13) rfl rfl wr.heap.size rfl [c0 a, c1 a, c2 a, c3 a, c4 a, c5 a] rfl rfl (there_cells (cs := [_, _, _, _, _, _]) (heap_alloc_new wr _) rfl) hon ?_; intro w2 g1 g2 g3 g4 g5; refine Hid.out ?_)
      refine Lib.hid ?_
      have G1 := Lib.hid g1
      have B2 := Lib.hid ((below_alloc wr (.cells #[_, _, _, _, _, _] 48)).trans g3)
      clear g1 g2 g3 g4 g5
      go_wp2_with (first | (refine wpList_load_mid rfl 48 (.tmp 6) rfl wr.heap.size 0 rfl [c0 a, c1 a, c2 a, c3 a, c4 a, c5 a] _ G1.out Tryz.underlying48 rfl info48f ?_; refine Hid.out ?_) | fail)
      refine Lib.hid ?_
      go_wp2_with fail
      refine (HK.out _ B2.out).mono ?_
      clear HK
      rintro e w3 ⟨⟨v, rfl, hv⟩, hn, hg⟩
      have HN := Lib.hid hn
      have HG : Hid (w.grownBy w3 ro) := grown_trans HRel.out.2.1 (grown_trans (grown_any B2.out ro) hg)
      clear hn hg hon
      cases hst : (step s' a).1 with
      | none =>
        rw [hst] at hv
        obtain rfl : v = .pointer none := hv
        have HE : Hid (runL step s l = runL step (step s' a).2 (l.drop (k + 1))) := HRel.out.2.2.trans (by rw [HD.out]; exact runL_none hst)
        have HN2 : Hid (I (step s' a).2 w3) := HN.out hst
        clear hst HN HRel HD
        go_wp2
        go_roundw
        case rel => exact ⟨k + 1, (step s' a).2, by omega, by go_num, HN2.out, HG.out, HE.out⟩
        case measure => simp [intOf]; omega
      | some er =>
        rw [hst] at hv
        have HV := Lib.hid hv
        have HE : Hid ((runL step s l).1 = some er) := by show _ = _; rw [HRel.out.2.2, HD.out]; exact runL_some hst
        obtain ⟨b', rfl, hb'⟩ := hv
        clear hst HN HRel HD hb'
        go_wp2
        go_ret
        exact ⟨⟨_, rfl, by rw [HE.out]; exact HV.out⟩, fun h => (by rw [HE.out] at h; cases h), HG.out⟩
    · obtain rfl : k = l.length := by omega
      have HT : Hid (runL step s l = (none, s')) := HRel.out.2.2.trans (by rw [List.drop_length]; rfl)
      have HZ : Hid (I s' wr ∧ w.grownBy wr ro) := ⟨HRel.out.1, HRel.out.2.1⟩
      clear HRel
      go_wp2
      go_ret
      exact ⟨⟨_, rfl, by rw [HT.out]; rfl⟩, fun _ => by rw [HT.out]; exact HZ.out.1, HZ.out.2⟩
theorem info36f : (Tryz.prog.info? 36).map (·.size) = some 5 := by kernel_rfl
set_option maxHeartbeats 1600000 in
theorem firstF {σ α : Type} (step : σ → α → Er × σ) (c0 c1 c2 c3 c4 : α → Value) (I : σ → World → Prop) (ro : Option Nat) (l : List α) (V : Value) (B : Nat) (fn : Nat) (caps : Array Value) (he : Ent fn)
    (hI : ∀ s w w', I s w → Below w.heap.size w w' → I s w')
    (hrow : ∀ s w, I s w → RowF w (Lo B) l.length (l.flatMap fun a => [c0 a, c1 a, c2 a, c3 a, c4 a]) V)
    (hone : ∀ a ∈ l, ∀ u ∈ [c0 a, c1 a, c2 a, c3 a, c4 a], u.oneCell' = true)
    (hf : ∀ s a w, a ∈ l → I s w → Calls Tryz.prog fn (#[.agg #[c0 a, c1 a, c2 a, c3 a, c4 a]] ++ caps) w fun e w' => FOut (step s a).1 e w' ∧ ((step s a).1 = none → I (step s a).2 w') ∧ w.grownBy w' ro)
    (s : σ) (w : World) (h : I s w) :
    Calls Tryz.prog 44 #[V, .func (.func fn) #[] caps] w fun e w' => FOut (runL step s l).1 e w' ∧ ((runL step s l).1 = none → I (runL step s l).2 w') ∧ w.grownBy w' ro := by
  have he' : ∀ (args : Array Value) (w : World), (callFunc fn args).run Tryz.prog w = .ok (.enter fn args) w := he
  obtain ⟨A, c, rfl⟩ := (hrow s w h).slice5
  have hmx := (hrow s w h).len5
  have HI := Lib.hid hI
  have HR := Lib.hid hrow
  have HO := Lib.hid hone
  have HF := Lib.hid hf
  have H0 := Lib.hid h
  clear hI hrow hone hf h
  go_enter Tryz.func44, Tryz.ntmps44
  go_wp2
  go_loopw [6, 7, 10] (fun _ _ i wr => ∃ (k : Nat) (s' : σ), k ≤ l.length ∧ i = .int .i64 k ∧ Hid (I s' wr ∧ w.grownBy wr ro ∧ runL step s l = runL step s' (l.drop k))) (fun _ _ i _ => l.length - (intOf i).toNat)
  case atStart => exact ⟨0, s, Nat.zero_le _, rfl, H0.out, World.grownBy.refl _ _, rfl⟩
  case round =>
    obtain ⟨k, s', hk, rfl, HRel⟩ := hrel
    by_cases hlt : k < l.length
    · obtain ⟨a, ha⟩ : ∃ a, l[k]? = some a := ⟨_, List.getElem?_eq_getElem hlt⟩
      have hmem : a ∈ l := List.mem_of_getElem? ha
      have hget := fun j hj => flat_get (cel := fun a => [c0 a, c1 a, c2 a, c3 a, c4 a]) (n := 5) (fun _ => rfl) l k j a ha hj
      obtain ⟨b, o, c', hV, a1, a2, a3, a4⟩ := (HR.out s' wr HRel.out.1).plain5 (by
        intro e0
        have := hget 0 (by omega)
        rw [e0] at this
        simp at this)
      injection hV with hV1 hV2 hV3
      subst hV1 hV3
      have hrg : wr.rangeAt b (o + k * 5) [c0 a, c1 a, c2 a, c3 a, c4 a] := fun j v hv => by
        have hj : j < 5 := by
          have := (List.getElem?_eq_some_iff.1 hv).1
          simpa using this
        rw [Nat.add_assoc]
        exact a4 _ v ((hget j hj).trans hv)
      have HRG := Lib.hid hrg
      have hdrop : l.drop k = a :: l.drop (k + 1) := by
        rw [List.drop_eq_getElem_cons hlt]
        rw [List.getElem?_eq_getElem hlt] at ha
        injection ha with ha
        rw [ha]
      have HD := Lib.hid hdrop
      have hon := HO.out a hmem
      have HK : Hid (∀ w1, Below wr.heap.size wr w1 → Calls Tryz.prog fn (#[.agg #[c0 a, c1 a, c2 a, c3 a, c4 a]] ++ caps) w1 fun e w' => FOut (step s' a).1 e w' ∧ ((step s' a).1 = none → I (step s' a).2 w') ∧ w1.grownBy w' ro) := fun w1 hb => HF.out s' a w1 hmem (HI.out s' wr w1 HRel.out.1 hb)
      unfold maxLen at a2
      clear hV2 a3 a4 hget hrg hdrop ha hmem HF HO HR H0
      go_wp2_with (first | (refine wpList_load_mid rfl 36 (.tmp 12) rfl b (o + k * 5) rfl [c0 a, c1 a, c2 a, c3 a, c4 a] _ HRG.out Tryz.underlying36 rfl info36f ?_; refine Hid.out ?_) | fail)
      refine Lib.hid ?_
      go_wp2_with (refine wpList_storeN info36f rfl (.tmp 6) (.tmp 13) rfl rfl wr.heap.size rfl [c0 a, c1 a, c2 a, c3 a, c4 a] rfl rfl (there_cells (cs := [_, _, _, _, _]) (heap_alloc_new wr _) rfl) hon ?_; intro w2 g1 g2 g3 g4 g5; refine Hid.out ?_)
      refine Lib.hid ?_
      have G1 := Lib.hid g1
      have B2 := Lib.hid ((below_alloc wr (.cells #[_, _, _, _, _] 36)).trans g3)
      clear g1 g2 g3 g4 g5
      go_wp2_with (first | (refine wpList_load_mid rfl 36 (.tmp 6) rfl wr.heap.size 0 rfl [c0 a, c1 a, c2 a, c3 a, c4 a] _ G1.out Tryz.underlying36 rfl info36f ?_; refine Hid.out ?_) | fail)
      refine Lib.hid ?_
      go_wp2_with fail
      refine (HK.out _ B2.out).mono ?_
      clear HK
      rintro e w3 ⟨⟨v, rfl, hv⟩, hn, hg⟩
      have HN := Lib.hid hn
      have HG : Hid (w.grownBy w3 ro) := grown_trans HRel.out.2.1 (grown_trans (grown_any B2.out ro) hg)
      clear hn hg hon
      cases hst : (step s' a).1 with
      | none =>
        rw [hst] at hv
        obtain rfl : v = .pointer none := hv
        have HE : Hid (runL step s l = runL step (step s' a).2 (l.drop (k + 1))) := HRel.out.2.2.trans (by rw [HD.out]; exact runL_none hst)
        have HN2 : Hid (I (step s' a).2 w3) := HN.out hst
        clear hst HN HRel HD
        go_wp2
        go_roundw
        case rel => exact ⟨k + 1, (step s' a).2, by omega, by go_num, HN2.out, HG.out, HE.out⟩
        case measure => simp [intOf]; omega
      | some er =>
        rw [hst] at hv
        have HV := Lib.hid hv
        have HE : Hid ((runL step s l).1 = some er) := by show _ = _; rw [HRel.out.2.2, HD.out]; exact runL_some hst
        obtain ⟨b', rfl, hb'⟩ := hv
        clear hst HN HRel HD hb'
        go_wp2
        go_ret
        exact ⟨⟨_, rfl, by rw [HE.out]; exact HV.out⟩, fun h => (by rw [HE.out] at h; cases h), HG.out⟩
    · obtain rfl : k = l.length := by omega
      have HT : Hid (runL step s l = (none, s')) := HRel.out.2.2.trans (by rw [List.drop_length]; rfl)
      have HZ : Hid (I s' wr ∧ w.grownBy wr ro) := ⟨HRel.out.1, HRel.out.2.1⟩
      clear HRel
      go_wp2
      go_ret
      exact ⟨⟨_, rfl, by rw [HT.out]; rfl⟩, fun _ => by rw [HT.out]; exact HZ.out.1, HZ.out.2⟩
end

section
open Go.RowKit
set_option maxRecDepth 100000
set_option linter.unusedSimpArgs false
set_option linter.unusedVariables false

theorem xesC_slice {w : World} {D : Nat → Prop} {l : List Xe} {V : Value} (h : XesC w D l V) : ∃ A c, V = .slice A l.length c := by
  cases h with
  | mk _ ks _ hk h1 ht h2 => exact h1.slice5
/-- what is known of an expression's check -/
def EC (e : Xe) : Prop := ∀ (B cB g b : Nat) (fs : List Xf) (res : Int) (sc : Scope) (w : World) (v : Value), Cx w B cB g fs res → Sco w b sc → XeV w (Lo B) e v →
  Calls Tryz.prog 154 #[.pointer (some ⟨cB, 0, none⟩), v, .map (some b)] w fun x w' => TOut (exprM (tabOf fs) sc e) x w' ∧ Below w.heap.size w w'
abbrev xeO (op num : Int) (text : List Nat) (K : Value) (place : Int) : Obj := .cells #[.int .i64 op, .int .i64 num, .string (strN text), K, .int .i64 place] 46
theorem xe_cells (w : World) (op num : Int) (text : List Nat) (K : Value) (place : Int) :
    (w.alloc (xeO op num text K place)).cell? ⟨w.heap.size, 0, none⟩ = some (.int .i64 op) ∧ (w.alloc (xeO op num text K place)).cell? ⟨w.heap.size, 1, none⟩ = some (.int .i64 num) ∧ (w.alloc (xeO op num text K place)).cell? ⟨w.heap.size, 2, none⟩ = some (.string (strN text)) ∧ (w.alloc (xeO op num text K place)).cell? ⟨w.heap.size, 3, none⟩ = some K ∧ (w.alloc (xeO op num text K place)).cell? ⟨w.heap.size, 4, none⟩ = some (.int .i64 place) := by
  refine ⟨?_, ?_, ?_, ?_, ?_⟩ <;> (rw [cell_of_row _ _ _ _ _ _ (heap_alloc_new w _)]; rfl)

set_option maxHeartbeats 1600000 in
theorem operandC (op num : Int) (text : List Nat) (kids : List Xe) (place : Int) (hE : EC (.mk op num text kids place)) (B cB g b : Nat) (fs : List Xf) (res : Int) (sc : Scope) (w : World) (v : Value) (fv : Value) (fits : Int → Bool)
    (hc : Cx w B cB g fs res) (hs : Sco w b sc) (hv : XeV w (Lo B) (.mk op num text kids place) v) (hf : FitV w fv fits) :
    Calls Tryz.prog 138 #[.pointer (some ⟨cB, 0, none⟩), v, .map (some b), fv] w fun x w' => TOut (operandR fits (place, exprM (tabOf fs) sc (.mk op num text kids place))) x w' ∧ Below w.heap.size w w' := by
  have hv0 := hv
  obtain ⟨K, rfl, ht, hk⟩ := hv
  obtain ⟨A, c, rfl⟩ := xesC_slice hk
  have hB : B ≤ w.heap.size := by have := hc.lt; have := hc.hc; omega
  have BA := Lib.hid (below_alloc w (xeO op num text (.slice A kids.length c) place))
  have HC := Lib.hid (hc.below BA.out)
  have HK := Lib.hid (hE B cB g b fs res sc _ _ (hc.below BA.out) (hs.below BA.out) (hv0.same (same_below BA.out hB)))
  have HF := Lib.hid (hf.below BA.out)
  have c4 := (xe_cells w op num text (.slice A kids.length c) place).2.2.2.2
  obtain ⟨fn, caps, D, rfl, hent, _⟩ := hf
  have he' : ∀ (args : Array Value) (w : World), (callFunc fn args).run Tryz.prog w = .ok (.enter fn args) w := hent
  unfold xeC at *
  simp only [Xe.op, Xe.num, Xe.text, Xe.kids, Xe.place] at *
  clear hv0 hc hs ht hk hE hent
  generalize exprM (tabOf fs) sc (.mk op num text kids place) = r at *
  go_enter Tryz.func138, Tryz.ntmps138
  go_wp2_with fail
  have HSZ : Hid (w.heap.size < (w.alloc (xeO op num text (.slice A kids.length c) place)).heap.size) := by show _ < _; simp
  generalize w.alloc (.cells #[.int .i64 op, .int .i64 num, .string (strN text), .slice A kids.length c, .int .i64 place] 46) = w0 at *
  refine HK.out.mono ?_
  rintro x w1 ⟨⟨vf, rfl, hvf⟩, b1⟩
  have HV := Lib.hid hvf
  have B1 := Lib.hid (bthen5 BA.out b1 BA.out.size)
  have d4 : w1.cell? ⟨w.heap.size, 4, none⟩ = some (.int .i64 place) := by rw [b1.cell (by exact HSZ.out)]; exact c4
  have HF1 := Lib.hid (HF.out.below b1)
  clear c4 b1 HK HF
  cases r with
  | bad cc pp =>
    obtain ⟨bf, rfl, _⟩ := hvf
    have HE : Hid (operandR fits (place, Rt.bad cc pp) = .bad cc pp) := rfl
    clear HF1
    go_wp2
    go_ret2
    exact ⟨⟨_, rfl, by rw [HE.out]; exact HV.out⟩, B1.out⟩
  | ok t =>
    obtain rfl : vf = .pointer none := hvf
    have HK2 : Hid (Calls Tryz.prog fn (#[.int .i64 t] ++ caps) w1 fun e w' => e = .returned (.bool (fits t)) ∧ Below w1.heap.size w1 w') := by
      obtain ⟨fn2, caps2, D2, e, _, h1, h2⟩ := HF1.out
      injection e with e1 e2 e3
      injection e1 with e1
      subst e1 e3
      exact h2 t w1 (fun k _ => rfl) (Nat.le_refl _)
    have HL : Hid (w.heap.size < w1.heap.size) := World.block_lt_of_cell? w1 _ d4
    clear HF1
    simp only [Rt.val]
    go_wp2_with fail
    refine HK2.out.mono ?_
    rintro x w2 ⟨rfl, b2⟩
    have B2 := Lib.hid (bthen5 B1.out b2 B1.out.size)
    have d4' : w2.cell? ⟨w.heap.size, 4, none⟩ = some (.int .i64 place) := by rw [b2.cell (by exact HL.out)]; exact d4
    clear d4 b2 HK2
    cases hft : fits t with
    | true =>
      have HE : Hid (operandR fits (place, Rt.ok t) = .ok t) := by show _ = _; simp [operandR, hft]
      clear hft
      go_wp2
      go_ret2
      exact ⟨⟨_, by rw [HE.out]; rfl, by rw [HE.out]; rfl⟩, B2.out⟩
    | false =>
      have HE : Hid (operandR fits (place, Rt.ok t) = .bad 51 place) := by show _ = _; simp [operandR, hft]
      clear hft
      go_wp2_with fail
      go_region
      go_wp2
      go_ret2
      exact ⟨⟨_, by rw [HE.out]; rfl, by rw [HE.out]; exact fv_new w2 51 place⟩, (B2.out.alloc B2.out.size _).drew⟩
/-- an expression is one of its parts -/
theorem xe_eta (e : Xe) : e = .mk e.op e.num e.text e.kids e.place := by cases e; rfl
theorem operandE (e : Xe) (hE : EC e) (B cB g b : Nat) (fs : List Xf) (res : Int) (sc : Scope) (w : World) (v : Value) (fv : Value) (fits : Int → Bool)
    (hc : Cx w B cB g fs res) (hs : Sco w b sc) (hv : XeV w (Lo B) e v) (hf : FitV w fv fits) :
    Calls Tryz.prog 138 #[.pointer (some ⟨cB, 0, none⟩), v, .map (some b), fv] w fun x w' => TOut (operandR fits (e.place, exprM (tabOf fs) sc e)) x w' ∧ Below w.heap.size w w' := by
  obtain ⟨op, num, text, kids, place⟩ := e
  exact operandC op num text kids place hE B cB g b fs res sc w v fv fits hc hs hv hf

/-- what the closure of 'operands' keeps: the checker, the names, what fits -/
def OpsI (B cB g b : Nat) (fs : List Xf) (res : Int) (sc : Scope) (fits : Int → Bool) (fv : Value) (b1 b2 b3 : Nat) (l : List Xe) (ks : List Value) (V : Value) (w : World) : Prop :=
  Cx w B cB g fs res ∧ Sco w b sc ∧ FitV w fv fits ∧ w.cell? ⟨b1, 0, none⟩ = some (.pointer (some ⟨cB, 0, none⟩)) ∧ w.cell? ⟨b2, 0, none⟩ = some (.map (some b)) ∧ w.cell? ⟨b3, 0, none⟩ = some fv ∧
    ks.length = l.length ∧ RowF w (Lo B) l.length (xesC l ks) V ∧ (∀ e ∈ l, Byn e.text) ∧ ∀ (i : Nat) (e : Xe) (k : Value), l[i]? = some e → ks[i]? = some k → XesC w (Lo B) e.kids k
theorem cell_below {w w' : World} {a : Addr} {v : Value} (h : w.cell? a = some v) (hb : Below w.heap.size w w') : w'.cell? a = some v := by rw [hb.cell (World.block_lt_of_cell? w _ h)]; exact h
theorem OpsI.below {B cB g b : Nat} {fs : List Xf} {res : Int} {sc : Scope} {fits : Int → Bool} {fv : Value} {b1 b2 b3 : Nat} {l : List Xe} {ks : List Value} {V : Value} {w w' : World}
    (h : OpsI B cB g b fs res sc fits fv b1 b2 b3 l ks V w) (hb : Below w.heap.size w w') : OpsI B cB g b fs res sc fits fv b1 b2 b3 l ks V w' := by
  obtain ⟨h1, h2, h3, h4, h5, h6, h7, h8, h9, h10⟩ := h
  have hs := same_below hb (B := B) (by have := h1.lt; have := h1.hc; omega)
  exact ⟨h1.below hb, h2.below hb, h3.below hb, cell_below h4 hb, cell_below h5 hb, cell_below h6 hb, h7, h8.same hs, h9, fun i e k he hk => (h10 i e k he hk).same hs⟩
set_option maxHeartbeats 800000 in
theorem operands1C (e : Xe) (hE : EC e) (B cB g b : Nat) (fs : List Xf) (res : Int) (sc : Scope) (w : World) (k : Value) (A : Option Addr) (c : Nat) (hkk : k = .slice A e.kids.length c) (fv : Value) (fits : Int → Bool) (b1 b2 b3 : Nat)
    (hc : Cx w B cB g fs res) (hs : Sco w b sc) (hv : XeV w (Lo B) e (.agg (xeC e k).toArray)) (hf : FitV w fv fits)
    (h1 : w.cell? ⟨b1, 0, none⟩ = some (.pointer (some ⟨cB, 0, none⟩))) (h2 : w.cell? ⟨b2, 0, none⟩ = some (.map (some b))) (h3 : w.cell? ⟨b3, 0, none⟩ = some fv) :
    Calls Tryz.prog 144 #[.agg (xeC e k).toArray, .pointer (some ⟨b1, 0, none⟩), .pointer (some ⟨b2, 0, none⟩), .pointer (some ⟨b3, 0, none⟩)] w fun x w' => FOut (operandR fits (e.place, exprM (tabOf fs) sc e)).err x w' ∧ Below w.heap.size w w' := by
  subst hkk
  have hB : B ≤ w.heap.size := by have := hc.lt; have := hc.hc; omega
  have BA := Lib.hid (below_alloc w (.cells (xeC e (.slice A e.kids.length c)).toArray 46))
  have HK := Lib.hid (operandE e hE B cB g b fs res sc _ _ fv fits (hc.below BA.out) (hs.below BA.out) (hv.same (same_below BA.out hB)) (hf.below BA.out))
  have g1 := cell_below h1 BA.out
  have g2 := cell_below h2 BA.out
  have g3 := cell_below h3 BA.out
  obtain ⟨fn, caps, D, rfl, _⟩ := hf
  generalize operandR fits (e.place, exprM (tabOf fs) sc e) = r at *
  unfold xeC at *
  clear hc hs hv hE h1 h2 h3
  go_enter Tryz.func144, Tryz.ntmps144
  go_upto_region 1 with fail
  have hz : (w.alloc (.cells (#[Value.int .i64 e.op, .int .i64 e.num, .string (strN e.text), .slice A e.kids.length c, .int .i64 e.place]) 46)).cell? ⟨w.heap.size, 0, none⟩ = some (.int .i64 e.op) := (xe_cells w e.op e.num e.text (.slice A e.kids.length c) e.place).1
  have hz1 := (xe_cells w e.op e.num e.text (.slice A e.kids.length c) e.place).2.1
  have hz2 := (xe_cells w e.op e.num e.text (.slice A e.kids.length c) e.place).2.2.1
  have hz3 := (xe_cells w e.op e.num e.text (.slice A e.kids.length c) e.place).2.2.2.1
  have hz4 := (xe_cells w e.op e.num e.text (.slice A e.kids.length c) e.place).2.2.2.2
  generalize w.alloc (.cells #[.int .i64 e.op, .int .i64 e.num, .string (strN e.text), .slice A e.kids.length c, .int .i64 e.place] 46) = w0 at *
  go_wp2_with fail
  refine HK.out.mono ?_
  rintro x w1 ⟨⟨vf, rfl, hvf⟩, b1⟩
  have HV := Lib.hid hvf
  have B1 := Lib.hid (bthen5 BA.out b1 BA.out.size)
  clear b1 HK g1 g2 g3 hz hz1 hz2 hz3 hz4
  cases r with
  | bad cc pp =>
    obtain ⟨bf, rfl, _⟩ := hvf
    go_wp2
    go_ret
    exact ⟨⟨_, rfl, HV.out⟩, B1.out⟩
  | ok t =>
    obtain rfl : vf = .pointer none := hvf
    go_wp2
    go_ret
    exact ⟨⟨_, rfl, HV.out⟩, B1.out⟩
end

section
open Go.RowKit
set_option maxRecDepth 100000
set_option linter.unusedSimpArgs false
set_option linter.unusedVariables false

theorem xesC_zip : ∀ (l : List Xe) (ks : List Value), xesC l ks = (l.zip ks).flatMap fun a => xeC a.1 a.2
  | [], _ => by simp [xesC]
  | _ :: _, [] => by simp [xesC]
  | e :: l, k :: ks => by
    have := xesC_zip l ks
    unfold xesC at this ⊢
    rw [List.zipWith_cons_cons, List.flatten_cons, this, List.zip_cons_cons, List.flatMap_cons]
theorem zip_mem {α β : Type} {l : List α} {ks : List β} {a : α × β} (h : a ∈ l.zip ks) : ∃ i : Nat, l[i]? = some a.1 ∧ ks[i]? = some a.2 := by
  obtain ⟨i, hi⟩ := List.getElem?_of_mem h
  rw [List.getElem?_zip_eq_some] at hi
  exact ⟨i, hi⟩
/-- one operand after the other -/
def opStep (T : Tab5) (sc : Scope) (fits : Int → Bool) : Unit → Xe × Value → Er × Unit := fun _ a => ((operandR fits (a.1.place, exprM T sc a.1)).err, ())
theorem opStep_all (T : Tab5) (sc : Scope) (fits : Int → Bool) : ∀ (l : List Xe) (ks : List Value), ks.length = l.length → (runL (opStep T sc fits) () (l.zip ks)).1 = allR fits (kidsM T sc l)
  | [], [], _ => by simp [runL, kidsM, allR]
  | [], k :: ks, h => by simp at h
  | e :: l, [], h => by simp at h
  | e :: l, k :: ks, h => by
    have ih := opStep_all T sc fits l ks (by simpa using h)
    rw [List.zip_cons_cons]
    simp only [kidsM, allR]
    cases hr : operandR fits (e.place, exprM T sc e) with
    | bad c p => exact runL_some (by simp [opStep, hr, Rt.err])
    | ok t => rw [runL_none (by simp [opStep, hr, Rt.err])]; exact ih
theorem kid_slice {w : World} {D : Nat → Prop} {e : Xe} {k : Value} (h : XesC w D e.kids k) : k.oneCell' = true := by obtain ⟨A, c, rfl⟩ := xesC_slice h; rfl

theorem opsFirst (l : List Xe) (hE : ∀ e ∈ l, EC e) (B cB g b : Nat) (fs : List Xf) (res : Int) (sc : Scope) (fits : Int → Bool) (fv : Value) (b1 b2 b3 : Nat) (ks : List Value) (V : Value) (w : World) (h : OpsI B cB g b fs res sc fits fv b1 b2 b3 l ks V w) :
    Calls Tryz.prog 143 #[V, .func (.func 144) #[] #[.pointer (some ⟨b1, 0, none⟩), .pointer (some ⟨b2, 0, none⟩), .pointer (some ⟨b3, 0, none⟩)]] w fun x w' => FOut (allR fits (kidsM (tabOf fs) sc l)) x w' ∧ Below w.heap.size w w' := by
  have hk : ks.length = l.length := h.2.2.2.2.2.2.1
  have hz : (l.zip ks).length = l.length := by rw [List.length_zip]; omega
  refine (firstX (opStep (tabOf fs) sc fits) (fun a => .int .i64 a.1.op) (fun a => .int .i64 a.1.num) (fun a => .string (strN a.1.text)) (fun a => a.2) (fun a => .int .i64 a.1.place)
    (fun _ w => OpsI B cB g b fs res sc fits fv b1 b2 b3 l ks V w) none (l.zip ks) V B 144 #[.pointer (some ⟨b1, 0, none⟩), .pointer (some ⟨b2, 0, none⟩), .pointer (some ⟨b3, 0, none⟩)] (by intro args w; simp)
    (fun _ _ _ h hb => h.below hb) (fun _ w h => ?_) ?_ ?_ () w h).mono ?_
  · rw [hz]
    have := h.2.2.2.2.2.2.2.1
    rw [xesC_zip] at this
    exact this
  · intro a ha u hu
    obtain ⟨i, g1, g2⟩ := zip_mem ha
    have := kid_slice (h.2.2.2.2.2.2.2.2.2 i a.1 a.2 g1 g2)
    simp at hu
    rcases hu with rfl | rfl | rfl | rfl | rfl <;> first | rfl | exact this
  · intro _ a w1 ha h1
    obtain ⟨i, g1, g2⟩ := zip_mem ha
    have hkid := h1.2.2.2.2.2.2.2.2.2 i a.1 a.2 g1 g2
    obtain ⟨A, c, hA⟩ := xesC_slice hkid
    refine (operands1C a.1 (hE _ (List.mem_of_getElem? g1)) B cB g b fs res sc w1 a.2 A c hA fv fits b1 b2 b3 h1.1 h1.2.1 ⟨a.2, rfl, h1.2.2.2.2.2.2.2.2.1 _ (List.mem_of_getElem? g1), hkid⟩ h1.2.2.1 h1.2.2.2.1 h1.2.2.2.2.1 h1.2.2.2.2.2.1).mono ?_
    rintro e w2 ⟨ho, hb⟩
    exact ⟨ho, fun _ => h1.below hb, below_grown hb⟩
  · rintro e w' ⟨ho, _, hg⟩
    exact ⟨by rw [← opStep_all (tabOf fs) sc fits l ks hk]; exact ho, grown_below hg⟩

set_option maxHeartbeats 800000 in
theorem operandsC (l : List Xe) (hE : ∀ e ∈ l, EC e) (B cB g b : Nat) (fs : List Xf) (res : Int) (sc : Scope) (w : World) (V : Value) (fv : Value) (fits : Int → Bool)
    (hc : Cx w B cB g fs res) (hs : Sco w b sc) (hv : XesC w (Lo B) l V) (hf : FitV w fv fits) :
    Calls Tryz.prog 124 #[.pointer (some ⟨cB, 0, none⟩), V, .map (some b), fv] w fun x w' => FOut (allR fits (kidsM (tabOf fs) sc l)) x w' ∧ Below w.heap.size w w' := by
  obtain ⟨A, c, hV⟩ := xesC_slice hv
  subst hV
  obtain ⟨ks, hk, hrow, htx, hkids⟩ : ∃ ks : List Value, ks.length = l.length ∧ RowF w (Lo B) l.length (xesC l ks) (.slice A l.length c) ∧ (∀ e ∈ l, Byn e.text) ∧ ∀ (i : Nat) (e : Xe) (k : Value), l[i]? = some e → ks[i]? = some k → XesC w (Lo B) e.kids k := by
    cases hv with
    | mk _ ks _ hk h1 ht h2 => exact ⟨ks, hk, h1, ht, h2⟩
  have hB : B ≤ w.heap.size := by have := hc.lt; have := hc.hc; omega
  obtain ⟨fn, caps, D, hfv, hfr⟩ := hf
  have hf : FitV w fv fits := ⟨fn, caps, D, hfv, hfr⟩
  subst hfv
  have BA1 := below_alloc w (.cells #[.pointer (some ⟨cB, 0, none⟩)] 122)
  have BA2 := below_alloc (w.alloc (.cells #[.pointer (some ⟨cB, 0, none⟩)] 122)) (.cells #[.map (some b)] 118)
  have BA3 := below_alloc ((w.alloc (.cells #[.pointer (some ⟨cB, 0, none⟩)] 122)).alloc (.cells #[.map (some b)] 118)) (.cells #[.func (.func fn) #[] caps] 120)
  have e1 := cell_below (cell_below (show (w.alloc (.cells #[.pointer (some ⟨cB, 0, none⟩)] 122)).cell? ⟨w.heap.size, 0, none⟩ = some (.pointer (some ⟨cB, 0, none⟩)) by rw [cell_of_row _ _ _ _ _ _ (heap_alloc_new w _)]; rfl) BA2) BA3
  have e2 := cell_below (show ((w.alloc (.cells #[.pointer (some ⟨cB, 0, none⟩)] 122)).alloc (.cells #[.map (some b)] 118)).cell? ⟨w.heap.size + 1, 0, none⟩ = some (.map (some b)) by
    rw [show w.heap.size + 1 = (w.alloc (.cells #[.pointer (some ⟨cB, 0, none⟩)] 122)).heap.size by simp, cell_of_row _ _ _ _ _ _ (heap_alloc_new _ _)]; rfl) BA3
  have e3 : (((w.alloc (.cells #[.pointer (some ⟨cB, 0, none⟩)] 122)).alloc (.cells #[.map (some b)] 118)).alloc (.cells #[.func (.func fn) #[] caps] 120)).cell? ⟨w.heap.size + 1 + 1, 0, none⟩ = some (.func (.func fn) #[] caps) := by
    rw [show w.heap.size + 1 + 1 = ((w.alloc (.cells #[.pointer (some ⟨cB, 0, none⟩)] 122)).alloc (.cells #[.map (some b)] 118)).heap.size by simp, cell_of_row _ _ _ _ _ _ (heap_alloc_new _ _)]; rfl
  have BA := bthen5 (bthen5 BA1 BA2 BA1.size) BA3 (bthen5 BA1 BA2 BA1.size).size
  have HB := Lib.hid BA
  have K := Lib.hid (opsFirst l hE B cB g b fs res sc fits (.func (.func fn) #[] caps) w.heap.size (w.heap.size + 1) (w.heap.size + 1 + 1) ks (.slice A l.length c) _
    ⟨hc.below BA, hs.below BA, hf.below BA, e1, e2, e3, hk, hrow.same (same_below BA hB), htx, fun i e k he hk => (hkids i e k he hk).same (same_below BA hB)⟩)
  have hmf := hmf5
  clear hc hs hv hrow htx hkids hfr hf BA1 BA2 BA3 BA e1 e2 e3 hk hE
  go_enter Tryz.func124, Tryz.ntmps124
  go_wp2_with fail
  with_reducible refine K.out.mono ?_
  rintro e w1 ⟨⟨v, rfl, hv⟩, b1⟩
  have HV := Lib.hid hv
  have B1 := Lib.hid (bthen5 HB.out b1 HB.out.size)
  clear hv b1 K HB
  go_wp2
  go_ret
  exact ⟨⟨_, rfl, HV.out⟩, B1.out⟩

set_option maxHeartbeats 800000 in
theorem nameC (op num : Int) (text : List Nat) (kids : List Xe) (place : Int) (cB : Nat) (b : Nat) (sc : Scope) (w : World) (A : Option Addr) (c : Nat) (ht : Byn text) (hs : Sco w b sc) :
    Calls Tryz.prog 166 #[.pointer (some ⟨cB, 0, none⟩), .agg #[.int .i64 op, .int .i64 num, .string (strN text), .slice A kids.length c, .int .i64 place], .map (some b)] w fun x w' => TOut (nameR sc text place) x w' ∧ Below w.heap.size w w' := by
  have BA := Lib.hid (below_alloc w (xeO op num text (.slice A kids.length c) place))
  have HS := Lib.hid (hs.below BA.out)
  obtain ⟨z0, z1, z2, z3, z4⟩ := xe_cells w op num text (.slice A kids.length c) place
  have hl : w.heap.size < (w.alloc (xeO op num text (.slice A kids.length c) place)).heap.size := by simp
  clear hs
  go_enter Tryz.func166, Tryz.ntmps166
  go_upto_region 1 with fail
  generalize w.alloc (.cells #[.int .i64 op, .int .i64 num, .string (strN text), .slice A kids.length c, .int .i64 place] 46) = w0 at *
  have hrun := run_look118 HS.out ht
  have HL := Lib.hid hl
  clear hl
  cases hk : seek sc text with
  | none =>
    rw [hk] at hrun
    simp only [Option.map_none, Option.getD_none, Option.isSome_none] at hrun
    have HE : Hid (nameR sc text place = .bad 52 place) := by show _ = _; simp [nameR, hk]
    clear hk HS
    go_upto_region 3 with fail
    have B2 := below_alloc w0 (.cells #[.int .i64 0, .bool false] 140)
    have z4' := cell_below z4 B2
    have HB := Lib.hid (bthen5 BA.out B2 BA.out.size)
    clear z0 z1 z2 z3 z4 hrun B2 BA HL
    generalize w0.alloc (.cells #[.int .i64 0, .bool false] 140) = w1 at *
    go_region
    go_wp2
    go_ret2
    exact ⟨⟨_, by rw [HE.out]; rfl, by rw [HE.out]; exact fv_new w1 52 place⟩, (HB.out.alloc HB.out.size _).drew⟩
  | some d =>
    rw [hk] at hrun
    simp only [Option.map_some, Option.getD_some, Option.isSome_some] at hrun
    have HE : Hid (nameR sc text place = .ok d.1) := by show _ = _; simp [nameR, hk]
    clear hk HS z0 z1 z3 z4 HL
    go_wp2
    go_ret2
    exact ⟨⟨_, by rw [HE.out]; rfl, by rw [HE.out]; rfl⟩, BA.out.alloc BA.out.size _⟩
end

section
open Go.RowKit
set_option maxRecDepth 100000
set_option linter.unusedSimpArgs false
set_option linter.unusedVariables false

set_option maxHeartbeats 1600000 in
theorem oneC (op num : Int) (text : List Nat) (kids : List Xe) (place : Int) (hE : ∀ e ∈ kids, EC e) (B cB g b : Nat) (fs : List Xf) (res : Int) (sc : Scope) (w : World) (A : Option Addr) (c : Nat)
    (hc : Cx w B cB g fs res) (hs : Sco w b sc) (ht : Byn text) (hk : XesC w (Lo B) kids (.slice A kids.length c)) :
    Calls Tryz.prog 169 #[.pointer (some ⟨cB, 0, none⟩), .agg #[.int .i64 op, .int .i64 num, .string (strN text), .slice A kids.length c, .int .i64 place], .map (some b)] w fun x w' => TOut (oneR (unaryR op text) (kidsM (tabOf fs) sc kids)) x w' ∧ Below w.heap.size w w' := by
  have hB : B ≤ w.heap.size := by have := hc.lt; have := hc.hc; omega
  have BA := Lib.hid (below_alloc w (xeO op num text (.slice A kids.length c) place))
  have KU := Lib.hid (unaryC op num text (.slice A kids.length c) place · ht)
  have HKO : Hid (∀ w' fv fits, Below w.heap.size w w' → FitV w' fv fits → Calls Tryz.prog 124 #[.pointer (some ⟨cB, 0, none⟩), .slice A kids.length c, .map (some b), fv] w' fun x w'' => FOut (allR fits (kidsM (tabOf fs) sc kids)) x w'' ∧ Below w'.heap.size w' w'') :=
    fun w' fv fits hb hf => operandsC kids hE B cB g b fs res sc w' _ fv fits (hc.below hb) (hs.below hb) (hk.same (same_below hb hB)) hf
  obtain ⟨z0, z1, z2, z3, z4⟩ := xe_cells w op num text (.slice A kids.length c) place
  generalize unaryR op text = u at *
  generalize kidsM (tabOf fs) sc kids = rs at *
  clear hc hs hk hE ht
  go_enter Tryz.func169, Tryz.ntmps169
  go_upto_region 1 with fail
  generalize w.alloc (.cells #[.int .i64 op, .int .i64 num, .string (strN text), .slice A kids.length c, .int .i64 place] 46) = w0 at *
  go_wp2_with fail
  refine (KU.out _).mono ?_
  rintro x w1 ⟨rfl, b1⟩
  have y3 := cell_below z3 b1
  have B1 := Lib.hid (bthen5 BA.out b1 BA.out.size)
  clear z0 z1 z2 z3 z4 b1 BA KU
  go_upto_region 2 with fail
  have hbl : Below w1.heap.size w1 w1.drew := (Below.refl _ _).drew
  have HQ : Hid (∀ w', Below w1.heap.size w1 w' → w'.cell? ⟨w.heap.size, 3, none⟩ = some (.slice A kids.length c)) := fun w' hb => cell_below y3 hb
  clear y3
  go_region_held3 (fun w' => w'.cell? ⟨w.heap.size, 3, none⟩ = some (.slice A kids.length c))
    (with_reducible exact HQ.out _ hbl)
    (first | (go_at_call 125; refine (isC _ _).mono ?_; rintro e wn ⟨v, rfl, hf, hbn⟩; have HF := Lib.hid hf.less; obtain ⟨fn, caps, D, rfl, _⟩ := hf; replace hbl := bthen5 hbl hbn hbl.size) | (go_at_call 124; refine (HKO.out _ _ _ (bthen5 B1.out hbl B1.out.size) HF.out).mono ?_; rintro e wn2 ⟨⟨v, rfl, hv⟩, hbn2⟩; replace hbl := bthen5 hbl hbn2 hbl.size))
  have HV := Lib.hid hv
  have B2 := Lib.hid (bthen5 B1.out hbl B1.out.size)
  clear hbn hbn2 hbl HQ
  cases hr : allR (fun t => t == u.1) rs with
  | none =>
    rw [hr] at hv
    obtain rfl : v = .pointer none := hv
    have HE : Hid (oneR u rs = .ok u.2) := by show _ = _; simp [oneR, hr]
    clear hr
    go_wp2
    go_ret2
    exact ⟨⟨_, by rw [HE.out]; rfl, by rw [HE.out]; rfl⟩, B2.out⟩
  | some er =>
    rw [hr] at hv HV
    obtain ⟨b', rfl, _⟩ := hv
    have HE : Hid (oneR u rs = .bad er.1 er.2) := by show _ = _; simp [oneR, hr]
    clear hr
    go_wp2
    go_ret2
    exact ⟨⟨_, by rw [HE.out]; rfl, by rw [HE.out]; exact HV.out⟩, B2.out⟩
end
end Go.Proofs.YtfcpabhkconjmaaGreatDoor
