/- The rows of the signs: what 'rowOf' returns for each. Conditions: none. -/
import Derived.Test.YtehihpfhcphdoaaB
namespace Go.Proofs.Ytehihpfhcphdoaa
open Go.RowKit

/-- a function value of two ints that answers as f does, in whatever world comes of w0 -/
def IntsFn (v : Value) (f : Int → Int → Ans) (D : Nat → Prop) (w0 : World) : Prop :=
  ∃ fn caps, v = .func (.func fn) #[] caps ∧ Ent fn ∧ ∀ (a b : Int) (w : World), fits a → fits b → Kept D w0 w → Calls Try.prog fn (#[.int .i64 a, .int .i64 b] ++ caps) w fun e w' => e = .returned (AV (f a b)) ∧ Below w.heap.size w w'
def BoolsFn (v : Value) (f : Bool → Bool → Bool) (D : Nat → Prop) (w0 : World) : Prop := ∃ fn caps, v = .func (.func fn) #[] caps ∧ IsBools fn caps f D w0
/-- a value of function type -/
def FnV (v : Value) : Prop := v = .nilFunc ∨ ∃ fn caps, v = .func (.func fn) #[] caps
theorem FnV.one {v : Value} (h : FnV v) : v.oneCell' = true := by
  rcases h with rfl | ⟨_, _, rfl⟩ <;> rfl
theorem FnV.fn (fn : Nat) (caps : Array Value) : FnV (.func (.func fn) #[] caps) := .inr ⟨_, _, rfl⟩
theorem FnV.no : FnV .nilFunc := .inl rfl
theorem IntsFn.v {v : Value} {f : Int → Int → Ans} {D : Nat → Prop} {w : World} (h : IntsFn v f D w) : FnV v := by obtain ⟨fn, caps, rfl, _⟩ := h; exact .fn _ _
theorem BoolsFn.v {v : Value} {f : Bool → Bool → Bool} {D : Nat → Prop} {w : World} (h : BoolsFn v f D w) : FnV v := by obtain ⟨fn, caps, rfl, _⟩ := h; exact .fn _ _
/-- a row whose first function answers as f does -/
def RowI (f : Int → Int → Ans) (w : World) (e : Ending) (w' : World) : Prop :=
  ∃ D v1 v2 v3, e = .returned (.agg #[v1, v2, v3]) ∧ (∀ k, D k → k < w'.heap.size) ∧ IntsFn v1 f D w' ∧ FnV v2 ∧ FnV v3 ∧ Below w.heap.size w w'
/-- a row whose second function answers as f does -/
def RowB (f : Bool → Bool → Bool) (w : World) (e : Ending) (w' : World) : Prop :=
  ∃ D v1 v2 v3, e = .returned (.agg #[v1, v2, v3]) ∧ (∀ k, D k → k < w'.heap.size) ∧ FnV v1 ∧ BoolsFn v2 f D w' ∧ FnV v3 ∧ Below w.heap.size w w'
abbrev rO : Obj := .cells #[.nilFunc, .nilFunc, .nilFunc] 47

set_option maxHeartbeats 400000 in
theorem dividedC (fn : Nat) (f : Int → Int → Int) (hf : IsPart fn f) (w : World) : Calls Try.prog 27 #[.func (.func fn) #[] #[]] w fun e w' => ∃ v, e = .returned v ∧ IntsFn v (divAns f) (fun k => k = w.heap.size) w' ∧ w.heap.size < w'.heap.size ∧ Below w.heap.size w w' := by
  have hmf : ∀ (fn : Fn) (first cap : Array Value) (w : World), (Instr.makeFunc fn first cap).run Try.prog w = .ok (.func fn first cap) w := fun _ _ _ _ => rfl
  have HF := Lib.hid hf
  go_enter Try.func27, Try.ntmps27
  go_wp2
  go_ret
  refine ⟨_, rfl, ⟨41, _, rfl, by intro args w; simp, fun a b w1 ha hb hw => ?_⟩, by simp, below_alloc _ _⟩
  exact divC fn f HF.out a b w.heap.size w1 ha hb (hw.cell rfl (by rw [cell_of_row _ _ _ _ _ _ (heap_alloc_new w _)]; rfl))
set_option maxHeartbeats 400000 in
theorem orderedC (fn : Nat) (caps : Array Value) (h : Int → Bool) (D : Nat → Prop) (w : World) (hD : ∀ k, D k → k < w.heap.size) (hf : IsHolds fn caps h D w) : Calls Try.prog 30 #[.func (.func fn) #[] caps] w fun e w' => ∃ v, e = .returned v ∧ IntsFn v (ordAns h) (fun k => D k ∨ k = w.heap.size) w' ∧ w.heap.size < w'.heap.size ∧ Below w.heap.size w w' := by
  have hmf : ∀ (fn : Fn) (first cap : Array Value) (w : World), (Instr.makeFunc fn first cap).run Try.prog w = .ok (.func fn first cap) w := fun _ _ _ _ => rfl
  have HF := Lib.hid hf
  go_enter Try.func30, Try.ntmps30
  go_wp2
  go_ret
  refine ⟨_, rfl, ⟨42, _, rfl, by intro args w; simp, fun a b w1 ha hb hw => ?_⟩, by simp, below_alloc _ _⟩
  have hw' : Kept D w w1 := fun k hk => ⟨hD k hk, by rw [(hw k (.inl hk)).2, (below_alloc w _).block k (hD k hk)]⟩
  exact ordC fn caps h w D HF.out a b w.heap.size w1 hw' (hw.cell (.inr rfl) (by rw [cell_of_row _ _ _ _ _ _ (heap_alloc_new w _)]; rfl))
theorem there_rO (w : World) : (w.alloc rO).there w.heap.size 0 3 := there_cells (cs := [.nilFunc, .nilFunc, .nilFunc]) (heap_alloc_new w _) rfl
theorem ints_of {fn : Nat} {f : Int → Int → Ans} (he : Ent fn) (h : ∀ a b w, fits a → fits b → Calls Try.prog fn #[.int .i64 a, .int .i64 b] w fun e w' => e = .returned (AV (f a b)) ∧ Below w.heap.size w w') (w : World) : IntsFn (.func (.func fn) #[] #[]) f (fun _ => False) w :=
  ⟨fn, #[], rfl, he, fun a b w ha hb _ => by simpa using h a b w ha hb⟩
theorem ent24 : Ent 24 := by intro args w; simp
theorem ent22 : Ent 22 := by intro args w; simp
theorem ent26 : Ent 26 := by intro args w; simp
theorem IntsFn.later {v : Value} {f : Int → Int → Ans} {D : Nat → Prop} {w w' : World} (h : IntsFn v f D w) (hk : Kept D w w') : IntsFn v f D w' := by
  obtain ⟨fn, caps, rfl, he, hc⟩ := h
  exact ⟨fn, caps, rfl, he, fun a b w1 ha hb hw => hc a b w1 ha hb fun k h1 => ⟨(hk k h1).1, by rw [(hw k h1).2, (hk k h1).2]⟩⟩

set_option maxHeartbeats 400000 in
theorem row_plus (w : World) : Calls Try.prog 19 #[.string ⟨#[43]⟩] w (RowI (fun a b => ansOf (a + b)) w) := by
  go_enter Try.func19, Try.ntmps19
  go_wp2_with (refine wpList_storeN info47s rfl (.tmp 2) (.tmp 6) rfl rfl w.heap.size rfl [_, _, _] rfl rfl (there_rO w) (by simp [Value.oneCell']) ?_; intro w2 g1 g2 g3 g4 g5)
  refine bodyPost_ret (ret_cell (cs := [_, _, _]) Try.results19 Try.underlying47 rfl info47s _ _ w.heap.size rfl g1) rfl ?_
  exact ⟨_, _, _, _, rfl, fun _ h => h.elim, ints_of ent24 sumC _, .no, .fn _ _, (below_alloc w rO).trans g3⟩

set_option maxHeartbeats 400000 in
theorem row_minus (w : World) : Calls Try.prog 19 #[.string ⟨#[45]⟩] w (RowI (fun a b => ansOf (a - b)) w) := by
  go_enter Try.func19, Try.ntmps19
  go_wp2_with (refine wpList_storeN info47s rfl (.tmp 2) (.tmp 9) rfl rfl w.heap.size rfl [_, _, _] rfl rfl (there_rO w) (by simp [Value.oneCell']) ?_; intro w2 g1 g2 g3 g4 g5)
  refine bodyPost_ret (ret_cell (cs := [_, _, _]) Try.results19 Try.underlying47 rfl info47s _ _ w.heap.size rfl g1) rfl ?_
  exact ⟨_, _, _, _, rfl, fun _ h => h.elim, ints_of ent22 diffC _, .no, .no, (below_alloc w rO).trans g3⟩

set_option maxHeartbeats 400000 in
theorem row_times (w : World) : Calls Try.prog 19 #[.string ⟨#[42]⟩] w (RowI (fun a b => ansOf (a * b)) w) := by
  go_enter Try.func19, Try.ntmps19
  go_wp2_with (refine wpList_storeN info47s rfl (.tmp 2) (.tmp 12) rfl rfl w.heap.size rfl [_, _, _] rfl rfl (there_rO w) (by simp [Value.oneCell']) ?_; intro w2 g1 g2 g3 g4 g5)
  refine bodyPost_ret (ret_cell (cs := [_, _, _]) Try.results19 Try.underlying47 rfl info47s _ _ w.heap.size rfl g1) rfl ?_
  exact ⟨_, _, _, _, rfl, fun _ h => h.elim, ints_of ent26 prodC _, .no, .no, (below_alloc w rO).trans g3⟩

set_option maxHeartbeats 400000 in
theorem row_quo (w : World) : Calls Try.prog 19 #[.string ⟨#[47]⟩] w (RowI (divAns Int.tdiv) w) := by
  go_enter Try.func19, Try.ntmps19
  go_wp2_with fail
  refine (dividedC 28 Int.tdiv quoC _).mono ?_
  rintro e w1 ⟨v, rfl, hv, hlt, hb1⟩
  have HT := there_below (there_rO w) hb1 (by simp)
  have HV := Lib.hid hv
  obtain ⟨fn, caps, rfl, _⟩ := hv
  go_wp2_with (refine wpList_storeN info47s rfl (.tmp 2) (.tmp 16) rfl rfl w.heap.size rfl [_, _, _] rfl rfl HT (by simp [Value.oneCell']) ?_; intro w2 g1 g2 g3 g4 g5)
  refine bodyPost_ret (ret_cell (cs := [_, _, _]) Try.results19 Try.underlying47 rfl info47s _ _ w.heap.size rfl g1) rfl ?_
  refine ⟨_, _, _, _, rfl, fun k hk => ?_, HV.out.later fun k hk => ⟨?_, g4 k ?_⟩, .no, .no, ((below_alloc w rO).trans (hb1.mono (by simp))).trans g3⟩
  all_goals (simp at hk hlt; omega)

set_option maxHeartbeats 400000 in
theorem row_rem (w : World) : Calls Try.prog 19 #[.string ⟨#[37]⟩] w (RowI (divAns Int.tmod) w) := by
  go_enter Try.func19, Try.ntmps19
  go_wp2_with fail
  refine (dividedC 29 Int.tmod remC _).mono ?_
  rintro e w1 ⟨v, rfl, hv, hlt, hb1⟩
  have HT := there_below (there_rO w) hb1 (by simp)
  have HV := Lib.hid hv
  obtain ⟨fn, caps, rfl, _⟩ := hv
  go_wp2_with (refine wpList_storeN info47s rfl (.tmp 2) (.tmp 20) rfl rfl w.heap.size rfl [_, _, _] rfl rfl HT (by simp [Value.oneCell']) ?_; intro w2 g1 g2 g3 g4 g5)
  refine bodyPost_ret (ret_cell (cs := [_, _, _]) Try.results19 Try.underlying47 rfl info47s _ _ w.heap.size rfl g1) rfl ?_
  refine ⟨_, _, _, _, rfl, fun k hk => ?_, HV.out.later fun k hk => ⟨?_, g4 k ?_⟩, .no, .no, ((below_alloc w rO).trans (hb1.mono (by simp))).trans g3⟩
  all_goals (simp at hk hlt; omega)

set_option maxHeartbeats 400000 in
theorem row_lt (w : World) : Calls Try.prog 19 #[.string ⟨#[60]⟩] w (RowI (ordAns (fun n => decide (n < 0))) w) := by
  go_enter Try.func19, Try.ntmps19
  go_wp2_with fail
  refine (orderedC 31 #[] (fun n => decide (n < 0)) _ _ (fun _ h => h.elim) (hold31 _)).mono ?_
  rintro e w1 ⟨v, rfl, hv, hlt, hb1⟩
  have HT := there_below (there_rO w) hb1 (by simp)
  have HV := Lib.hid hv
  obtain ⟨fn, caps, rfl, _⟩ := hv
  go_wp2_with (refine wpList_storeN info47s rfl (.tmp 2) (.tmp 24) rfl rfl w.heap.size rfl [_, _, _] rfl rfl HT (by simp [Value.oneCell']) ?_; intro w2 g1 g2 g3 g4 g5)
  refine bodyPost_ret (ret_cell (cs := [_, _, _]) Try.results19 Try.underlying47 rfl info47s _ _ w.heap.size rfl g1) rfl ?_
  refine ⟨_, _, _, _, rfl, fun k hk => ?_, HV.out.later fun k hk => ⟨?_, g4 k ?_⟩, .no, .no, ((below_alloc w rO).trans (hb1.mono (by simp))).trans g3⟩
  all_goals (simp at hk hlt; omega)

set_option maxHeartbeats 400000 in
theorem row_le (w : World) : Calls Try.prog 19 #[.string ⟨#[60, 61]⟩] w (RowI (ordAns (fun n => decide (n ≤ 0))) w) := by
  go_enter Try.func19, Try.ntmps19
  go_wp2_with fail
  refine (orderedC 32 #[] (fun n => decide (n ≤ 0)) _ _ (fun _ h => h.elim) (hold32 _)).mono ?_
  rintro e w1 ⟨v, rfl, hv, hlt, hb1⟩
  have HT := there_below (there_rO w) hb1 (by simp)
  have HV := Lib.hid hv
  obtain ⟨fn, caps, rfl, _⟩ := hv
  go_wp2_with (refine wpList_storeN info47s rfl (.tmp 2) (.tmp 28) rfl rfl w.heap.size rfl [_, _, _] rfl rfl HT (by simp [Value.oneCell']) ?_; intro w2 g1 g2 g3 g4 g5)
  refine bodyPost_ret (ret_cell (cs := [_, _, _]) Try.results19 Try.underlying47 rfl info47s _ _ w.heap.size rfl g1) rfl ?_
  refine ⟨_, _, _, _, rfl, fun k hk => ?_, HV.out.later fun k hk => ⟨?_, g4 k ?_⟩, .no, .no, ((below_alloc w rO).trans (hb1.mono (by simp))).trans g3⟩
  all_goals (simp at hk hlt; omega)

set_option maxHeartbeats 400000 in
theorem row_gt (w : World) : Calls Try.prog 19 #[.string ⟨#[62]⟩] w (RowI (ordAns (fun n => decide (0 < n))) w) := by
  go_enter Try.func19, Try.ntmps19
  go_wp2_with fail
  refine (orderedC 33 #[] (fun n => decide (0 < n)) _ _ (fun _ h => h.elim) (hold33 _)).mono ?_
  rintro e w1 ⟨v, rfl, hv, hlt, hb1⟩
  have HT := there_below (there_rO w) hb1 (by simp)
  have HV := Lib.hid hv
  obtain ⟨fn, caps, rfl, _⟩ := hv
  go_wp2_with (refine wpList_storeN info47s rfl (.tmp 2) (.tmp 32) rfl rfl w.heap.size rfl [_, _, _] rfl rfl HT (by simp [Value.oneCell']) ?_; intro w2 g1 g2 g3 g4 g5)
  refine bodyPost_ret (ret_cell (cs := [_, _, _]) Try.results19 Try.underlying47 rfl info47s _ _ w.heap.size rfl g1) rfl ?_
  refine ⟨_, _, _, _, rfl, fun k hk => ?_, HV.out.later fun k hk => ⟨?_, g4 k ?_⟩, .no, .no, ((below_alloc w rO).trans (hb1.mono (by simp))).trans g3⟩
  all_goals (simp at hk hlt; omega)

set_option maxHeartbeats 400000 in
theorem row_ge (w : World) : Calls Try.prog 19 #[.string ⟨#[62, 61]⟩] w (RowI (ordAns (fun n => decide (0 ≤ n))) w) := by
  go_enter Try.func19, Try.ntmps19
  go_wp2_with fail
  refine (orderedC 34 #[] (fun n => decide (0 ≤ n)) _ _ (fun _ h => h.elim) (hold34 _)).mono ?_
  rintro e w1 ⟨v, rfl, hv, hlt, hb1⟩
  have HT := there_below (there_rO w) hb1 (by simp)
  have HV := Lib.hid hv
  obtain ⟨fn, caps, rfl, _⟩ := hv
  go_wp2_with (refine wpList_storeN info47s rfl (.tmp 2) (.tmp 36) rfl rfl w.heap.size rfl [_, _, _] rfl rfl HT (by simp [Value.oneCell']) ?_; intro w2 g1 g2 g3 g4 g5)
  refine bodyPost_ret (ret_cell (cs := [_, _, _]) Try.results19 Try.underlying47 rfl info47s _ _ w.heap.size rfl g1) rfl ?_
  refine ⟨_, _, _, _, rfl, fun k hk => ?_, HV.out.later fun k hk => ⟨?_, g4 k ?_⟩, .no, .no, ((below_alloc w rO).trans (hb1.mono (by simp))).trans g3⟩
  all_goals (simp at hk hlt; omega)

theorem BoolsFn.later {v : Value} {f : Bool → Bool → Bool} {D : Nat → Prop} {w w' : World} (h : BoolsFn v f D w) (hk : Kept D w w') : BoolsFn v f D w' := by
  obtain ⟨fn, caps, rfl, he, hc⟩ := h
  exact ⟨fn, caps, rfl, he, fun a b w1 hw => hc a b w1 fun k h1 => ⟨(hk k h1).1, by rw [(hw k h1).2, (hk k h1).2]⟩⟩
theorem BoolsFn.more {v : Value} {f : Bool → Bool → Bool} {D D' : Nat → Prop} {w : World} (h : BoolsFn v f D w) (hk : ∀ k, D k → D' k) : BoolsFn v f D' w := by
  obtain ⟨fn, caps, rfl, he, hc⟩ := h
  exact ⟨fn, caps, rfl, he, fun a b w1 hw => hc a b w1 fun k h1 => hw k (hk k h1)⟩
/-- a row that asks whether two values are alike -/
def RowE (h : Bool → Bool) (w : World) (e : Ending) (w' : World) : Prop :=
  ∃ D v1 v2 v3, e = .returned (.agg #[v1, v2, v3]) ∧ (∀ k, D k → w.heap.size ≤ k ∧ k < w'.heap.size) ∧ IntsFn v1 (ordAns fun n => h (n == 0)) D w' ∧ BoolsFn v2 (fun a b => h (a == b)) D w' ∧ FnV v3 ∧ Below w.heap.size w w'
set_option maxHeartbeats 800000 in
theorem equalityC (fn : Nat) (h : Bool → Bool) (hf : IsAsk fn h) (w : World) : Calls Try.prog 35 #[.func (.func fn) #[] #[]] w (RowE h w) := by
  have hmf : ∀ (fn : Fn) (first cap : Array Value) (w : World), (Instr.makeFunc fn first cap).run Try.prog w = .ok (.func fn first cap) w := fun _ _ _ _ => rfl
  have hcell : ((w.alloc (.cells #[.func (.func fn) #[] #[]] 56)).alloc rO).cell? ⟨w.heap.size, 0, none⟩ = some (.func (.func fn) #[] #[]) := by
    rw [cell_of_row _ _ _ _ _ _ (show ((w.alloc (.cells #[.func (.func fn) #[] #[]] 56)).alloc rO).heap[w.heap.size]? = some _ by rw [Below.heap_alloc _ _ _ (by simp)]; exact heap_alloc_new w _)]
    rfl
  have K := Lib.hid (orderedC 44 #[.pointer (some ⟨w.heap.size, 0, none⟩)] (fun n => h (n == 0)) (fun k => k = w.heap.size) _ (by intro k hk; subst hk; simp; omega) (hold44 fn h hf w.heap.size _ hcell))
  have HF := Lib.hid hf
  have HT0 : ((w.alloc (.cells #[.func (.func fn) #[] #[]] 56)).alloc rO).there (w.heap.size + 1) 0 3 := there_cells (cs := [.nilFunc, .nilFunc, .nilFunc]) (by have := heap_alloc_new (w.alloc (.cells #[.func (.func fn) #[] #[]] 56)) rO; simpa using this) rfl
  have HC := Lib.hid hcell
  clear hcell
  go_enter Try.func35, Try.ntmps35
  go_wp2_with fail
  refine K.out.mono ?_
  rintro e w1 ⟨v, rfl, hv, hlt, hb1⟩
  have HT := there_below HT0 hb1 (by simp)
  have HV := Lib.hid hv
  obtain ⟨fn', caps, rfl, _⟩ := hv
  clear K
  go_wp2_with (refine wpList_storeN info47s rfl (.tmp 2) (.tmp 7) rfl rfl (w.heap.size + 1) rfl [_, _, _] rfl rfl HT (by simp [Value.oneCell']) ?_; intro w2 g1 g2 g3 g4 g5)
  refine bodyPost_ret (ret_cell (cs := [_, _, _]) Try.results35 Try.underlying47 rfl info47s _ _ (w.heap.size + 1) rfl g1) rfl ?_
  have hb2 := bools45 fn h HF.out w.heap.size w1 (keepc hb1 (by simp; omega) HC.out)
  simp only [World.size_alloc] at hlt
  have hK : Kept (fun k => k = w.heap.size ∨ k = ((w.alloc (.cells #[.func (.func fn) #[] #[]] 56)).alloc rO).heap.size) w1 w2 := fun k hk => by
    simp only [World.size_alloc] at hk
    exact ⟨by omega, g4 k (by omega)⟩
  refine ⟨_, _, _, _, rfl, fun k hk => ?_, HV.out.later hK, BoolsFn.later (BoolsFn.more ⟨45, _, rfl, hb2⟩ (fun k hk => .inl hk)) hK, .fn _ _, ?_⟩
  · simp only [World.size_alloc] at hk
    omega
  · exact ((below_two w _ _).trans (hb1.mono (by simp; omega))).trans (g3.mono (by omega))
set_option maxHeartbeats 400000 in
theorem row_eq (w : World) : Calls Try.prog 19 #[.string ⟨#[61, 61]⟩] w (RowE (fun b => b) w) := by
  go_enter Try.func19, Try.ntmps19
  go_wp2_with fail
  refine (equalityC 36 _ ask36 _).mono ?_
  rintro e w1 ⟨D, v1, v2, v3, rfl, hD, h1, h2, h3, hb1⟩
  have HT := there_below (there_rO w) hb1 (by simp)
  have HV := Lib.hid h1
  have HV2 := Lib.hid h2
  have HV3 := Lib.hid h3
  have o3 := h3.one
  have o1 := h1.v.one
  have o2 := h2.v.one
  clear h1 h2 h3
  go_wp2_with (refine wpList_storeN info47s rfl (.tmp 2) (.tmp 39) rfl rfl w.heap.size rfl [_, _, _] rfl rfl HT (by simp [o1, o2, o3]) ?_; intro w2 g1 g2 g3 g4 g5)
  refine bodyPost_ret (ret_cell (cs := [_, _, _]) Try.results19 Try.underlying47 rfl info47s _ _ w.heap.size rfl g1) rfl ?_
  have hK : Kept D w1 w2 := fun k hk => ⟨(hD k hk).2, g4 k (by have := (hD k hk).1; simp at this; omega)⟩
  exact ⟨_, _, _, _, rfl, fun k hk => ⟨by have := (hD k hk).1; simp at this; omega, by rw [g5]; exact (hD k hk).2⟩, HV.out.later hK, HV2.out.later hK, HV3.out, ((below_alloc w rO).trans (hb1.mono (by simp))).trans g3⟩
set_option maxHeartbeats 400000 in
theorem row_ne (w : World) : Calls Try.prog 19 #[.string ⟨#[33, 61]⟩] w (RowE (fun b => !b) w) := by
  go_enter Try.func19, Try.ntmps19
  go_wp2_with fail
  refine (equalityC 37 _ ask37 _).mono ?_
  rintro e w1 ⟨D, v1, v2, v3, rfl, hD, h1, h2, h3, hb1⟩
  have HT := there_below (there_rO w) hb1 (by simp)
  have HV := Lib.hid h1
  have HV2 := Lib.hid h2
  have HV3 := Lib.hid h3
  have o3 := h3.one
  have o1 := h1.v.one
  have o2 := h2.v.one
  clear h1 h2 h3
  go_wp2_with (refine wpList_storeN info47s rfl (.tmp 2) (.tmp 42) rfl rfl w.heap.size rfl [_, _, _] rfl rfl HT (by simp [o1, o2, o3]) ?_; intro w2 g1 g2 g3 g4 g5)
  refine bodyPost_ret (ret_cell (cs := [_, _, _]) Try.results19 Try.underlying47 rfl info47s _ _ w.heap.size rfl g1) rfl ?_
  have hK : Kept D w1 w2 := fun k hk => ⟨(hD k hk).2, g4 k (by have := (hD k hk).1; simp at this; omega)⟩
  exact ⟨_, _, _, _, rfl, fun k hk => ⟨by have := (hD k hk).1; simp at this; omega, by rw [g5]; exact (hD k hk).2⟩, HV.out.later hK, HV2.out.later hK, HV3.out, ((below_alloc w rO).trans (hb1.mono (by simp))).trans g3⟩
theorem RowE.ints {h : Bool → Bool} {w w' : World} {e : Ending} (r : RowE h w e w') : RowI (ordAns fun n => h (n == 0)) w e w' := by
  obtain ⟨D, v1, v2, v3, he, hD, h1, h2, h3, hb⟩ := r
  exact ⟨D, v1, v2, v3, he, fun k hk => (hD k hk).2, h1, h2.v, h3, hb⟩
theorem RowE.bools {h : Bool → Bool} {w w' : World} {e : Ending} (r : RowE h w e w') : RowB (fun a b => h (a == b)) w e w' := by
  obtain ⟨D, v1, v2, v3, he, hD, h1, h2, h3, hb⟩ := r
  exact ⟨D, v1, v2, v3, he, fun k hk => (hD k hk).2, h1.v, h2, h3, hb⟩

set_option maxHeartbeats 400000 in
theorem row_and (w : World) : Calls Try.prog 19 #[.string ⟨#[38, 38]⟩] w (RowB (fun a b => a && b) w) := by
  go_enter Try.func19, Try.ntmps19
  go_wp2_with (refine wpList_storeN info47s rfl (.tmp 2) (.tmp 45) rfl rfl w.heap.size rfl [_, _, _] rfl rfl (there_rO w) (by simp [Value.oneCell']) ?_; intro w2 g1 g2 g3 g4 g5)
  refine bodyPost_ret (ret_cell (cs := [_, _, _]) Try.results19 Try.underlying47 rfl info47s _ _ w.heap.size rfl g1) rfl ?_
  exact ⟨_, _, _, _, rfl, fun _ h => h.elim, .no, ⟨38, _, rfl, bools38 _⟩, .no, (below_alloc w rO).trans g3⟩

set_option maxHeartbeats 400000 in
theorem row_or (w : World) : Calls Try.prog 19 #[.string ⟨#[124, 124]⟩] w (RowB (fun a b => a || b) w) := by
  go_enter Try.func19, Try.ntmps19
  go_wp2_with (refine wpList_storeN info47s rfl (.tmp 2) (.tmp 48) rfl rfl w.heap.size rfl [_, _, _] rfl rfl (there_rO w) (by simp [Value.oneCell']) ?_; intro w2 g1 g2 g3 g4 g5)
  refine bodyPost_ret (ret_cell (cs := [_, _, _]) Try.results19 Try.underlying47 rfl info47s _ _ w.heap.size rfl g1) rfl ?_
  exact ⟨_, _, _, _, rfl, fun _ h => h.elim, .no, ⟨39, _, rfl, bools39 _⟩, .no, (below_alloc w rO).trans g3⟩
end Go.Proofs.Ytehihpfhcphdoaa
