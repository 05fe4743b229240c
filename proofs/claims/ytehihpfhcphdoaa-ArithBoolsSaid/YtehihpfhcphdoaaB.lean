/- What the functions return that a sign's row is made of: quotient and rest, the order of two ints, and what is asked of it. Conditions: ints are of 64 bits; a variable that a function keeps lies where it was made. -/
import Derived.Test.YtehihpfhcphdoaaA
namespace Go.Proofs.Ytehihpfhcphdoaa
open Go.RowKit

/-- the function of that number is entered at a call -/
def Ent (fn : Nat) : Prop := ∀ (args : Array Value) (w : World), (callFunc fn args).run Try.prog w = .ok (.enter fn args) w
/-- a function of two ints that returns an int -/
def IsPart (fn : Nat) (f : Int → Int → Int) : Prop :=
  Ent fn ∧ ∀ (a b : Int) (w : World), fits a → fits b → b ≠ 0 → ¬(a = -9223372036854775808 ∧ b = -1) → Calls Try.prog fn #[.int .i64 a, .int .i64 b] w fun e w' => e = .returned (.int .i64 (f a b)) ∧ w = w'
theorem tdiv_fits' {a b : Int} (ha : fits a) (h0 : b ≠ 0) (hm : ¬(a = -9223372036854775808 ∧ b = -1)) : fits (a.tdiv b) := by
  by_cases h : b = -1
  · subst h
    rw [Int.tdiv_neg, Int.tdiv_one]
    unfold fits at *
    omega
  · exact tdiv_fits ha h0 h

theorem quoC : IsPart 28 Int.tdiv := by
  refine ⟨by intro args w; simp, fun a b w ha hb h0 hm => ?_⟩
  have HW := Lib.hid (wrap_id (tdiv_fits' ha h0 hm))
  clear ha hb hm
  go_enter Try.func28, Try.ntmps28
  go_wp2
  go_ret
  exact ⟨by first | rfl | (rw [HW.out]; rfl), rfl⟩
theorem tmod_fits {a b : Int} (ha : fits a) : fits (a.tmod b) := by
  have h := Int.natAbs_tmod a b
  have h1 := Nat.mod_le a.natAbs b.natAbs
  rcases (show a < 0 ∨ 0 ≤ a by omega) with hn | hn
  · have : a.tmod b ≤ 0 := by
      have := Int.tmod_nonneg b (show 0 ≤ -a by omega)
      rw [Int.neg_tmod] at this
      omega
    unfold fits at *
    omega
  · have := Int.tmod_nonneg b hn
    unfold fits at *
    omega
theorem remC : IsPart 29 Int.tmod := by
  refine ⟨by intro args w; simp, fun a b w ha hb h0 hm => ?_⟩
  have HW := Lib.hid (wrap_id (tmod_fits (b := b) ha))
  clear ha hb hm
  go_enter Try.func29, Try.ntmps29
  go_wp2
  go_ret
  exact ⟨by first | rfl | (rw [HW.out]; rfl), rfl⟩

def divAns (f : Int → Int → Int) (a b : Int) : Ans := if b = 0 then ⟨0, 0, 2⟩ else if a = -9223372036854775808 ∧ b = -1 then ⟨0, 0, 3⟩ else ⟨1, f a b, 0⟩
theorem pointer_fn (w : World) (c : Nat) (v : Value) (o : Obj) (h : w.cell? ⟨c, 0, none⟩ = some v) : (w.alloc o).cell? ⟨c, 0, none⟩ = some v := by
  have := World.block_lt_of_cell? w _ h
  rw [(below_alloc w o).cell (by exact this)]
  exact h
set_option maxHeartbeats 800000 in
theorem divC (fn : Nat) (f : Int → Int → Int) (hf : IsPart fn f) (a b : Int) (c : Nat) (w : World) (ha : fits a) (hb : fits b) (hc : w.cell? ⟨c, 0, none⟩ = some (.func (.func fn) #[] #[])) :
    Calls Try.prog 41 #[.int .i64 a, .int .i64 b, .pointer (some ⟨c, 0, none⟩)] w fun e w' => e = .returned (AV (divAns f a b)) ∧ Below w.heap.size w w' := by
  have hc1 := pointer_fn w c _ zO hc
  obtain ⟨hent, HF⟩ := hf
  have HF := Lib.hid HF
  unfold Ent at hent
  by_cases h0 : b = 0
  · have e : divAns f a b = ⟨0, 0, 2⟩ := if_pos h0
    rw [e]
    subst h0
    clear ha hb hc e
    go_enter Try.func41, Try.ntmps41
    go_wp2
    refine bodyPost_ret (ret_cell2 (cs := [_, _, _]) Try.results41 Try.underlying26 rfl info26s _ _ w.heap.size rfl (range_of (heap_alloc_new w _))) rfl ?_
    exact ⟨rfl, below_alloc _ _⟩
  · have hz : (b == 0) = false := by simpa using h0
    by_cases hm : a = -9223372036854775808 ∧ b = -1
    · have e : divAns f a b = ⟨0, 0, 3⟩ := by unfold divAns; rw [if_neg h0, if_pos hm]
      rw [e]
      obtain ⟨rfl, rfl⟩ := hm
      clear ha hb hc e h0
      go_enter Try.func41, Try.ntmps41
      go_wp2
      refine bodyPost_ret (ret_cell2 (cs := [_, _, _]) Try.results41 Try.underlying26 rfl info26s _ _ w.heap.size rfl (range_of (heap_alloc_new w _))) rfl ?_
      exact ⟨rfl, below_alloc _ _⟩
    · have e : divAns f a b = ⟨1, f a b, 0⟩ := by unfold divAns; rw [if_neg h0, if_neg hm]
      rw [e]
      have K := fun w => HF.out a b w ha hb h0 hm
      have K := Lib.hid K
      have hmm : ((a == -9223372036854775808) && (b == -1)) = false := by
        rw [Bool.and_eq_false_iff]
        by_cases h : a = -9223372036854775808
        · right; simp; intro hh; exact hm ⟨h, hh⟩
        · left; simpa using h
      generalize f a b = q at *
      clear ha hb hc e hm HF
      cases h1 : (a == -9223372036854775808) with
      | false =>
        clear hmm
        go_enter Try.func41, Try.ntmps41
        go_wp2_with fail
        refine (K.out _).mono ?_
        rintro e w1 ⟨rfl, rfl⟩
        go_wp2_with fail
        refine (numC _ _).mono ?_
        rintro e w1 ⟨rfl, hb1⟩
        have HT := there_below (there_zO w) hb1 (by simp)
        go_wp2_with (refine wpList_storeN info26s rfl (.tmp 5) (.tmp 23) rfl rfl w.heap.size rfl [_, _, _] rfl rfl HT (by simp [Value.oneCell']) ?_; intro w2 g1 g2 g3 g4 g5)
        refine bodyPost_ret (ret_cell2 (cs := [_, _, _]) Try.results41 Try.underlying26 rfl info26s _ _ w.heap.size rfl g1) rfl ?_
        exact ⟨rfl, ((below_alloc w zO).trans (hb1.mono (by simp))).trans g3⟩
      | true =>
        rw [h1] at hmm
        simp only [Bool.true_and] at hmm
        go_enter Try.func41, Try.ntmps41
        go_wp2_with fail
        refine (K.out _).mono ?_
        rintro e w1 ⟨rfl, rfl⟩
        go_wp2_with fail
        refine (numC _ _).mono ?_
        rintro e w1 ⟨rfl, hb1⟩
        have HT := there_below (there_zO w) hb1 (by simp)
        go_wp2_with (refine wpList_storeN info26s rfl (.tmp 5) (.tmp 23) rfl rfl w.heap.size rfl [_, _, _] rfl rfl HT (by simp [Value.oneCell']) ?_; intro w2 g1 g2 g3 g4 g5)
        refine bodyPost_ret (ret_cell2 (cs := [_, _, _]) Try.results41 Try.underlying26 rfl info26s _ _ w.heap.size rfl g1) rfl ?_
        exact ⟨rfl, ((below_alloc w zO).trans (hb1.mono (by simp))).trans g3⟩
/-- how two ints stand -/
def ord (a b : Int) : Int := if a < b then -1 else if b < a then 1 else 0
set_option maxHeartbeats 400000 in
theorem cmpC (a b : Int) (w : World) : Calls Try.prog 43 #[.int .i64 a, .int .i64 b] w fun e w' => e = .returned (.int .i64 (ord a b)) ∧ w = w' := by
  by_cases h1 : a < b
  · rw [show ord a b = -1 from if_pos h1]
    go_enter Try.func43, Try.ntmps43
    go_wp2
    all_goals go_ret
    all_goals exact ⟨rfl, rfl⟩
  · by_cases h2 : b < a
    · rw [show ord a b = 1 by unfold ord; rw [if_neg h1, if_pos h2]]
      go_enter Try.func43, Try.ntmps43
      go_wp2
      all_goals go_ret
      all_goals exact ⟨rfl, rfl⟩
    · rw [show ord a b = 0 by unfold ord; rw [if_neg h1, if_neg h2]]
      go_enter Try.func43, Try.ntmps43
      go_wp2
      all_goals go_ret
      all_goals exact ⟨rfl, rfl⟩
/-- the blocks of D are as they were -/
def Kept (D : Nat → Prop) (w w' : World) : Prop := ∀ k, D k → k < w.heap.size ∧ w'.heap[k]? = w.heap[k]?
theorem Kept.below {D : Nat → Prop} {w w' w'' : World} (h : Kept D w w') (hb : Below w'.heap.size w' w'') : Kept D w w'' := fun k hk => by
  have h1 := h k hk
  have h2 : k < w'.heap.size := by
    have : ∃ o, w.heap[k]? = some o := ⟨_, Array.getElem?_eq_getElem h1.1⟩
    obtain ⟨o, ho⟩ := this
    rw [ho] at h1
    exact (Array.getElem?_eq_some_iff.1 h1.2).1
  exact ⟨h1.1, by rw [hb.block k h2]; exact h1.2⟩
theorem Kept.cell {D : Nat → Prop} {w w' : World} (h : Kept D w w') {c : Nat} (hc : D c) {v : Value} (hv : w.cell? ⟨c, 0, none⟩ = some v) : w'.cell? ⟨c, 0, none⟩ = some v := by
  rw [World.cell?_of_block (a := ⟨c, 0, none⟩) (h c hc).2]; exact hv
/-- a function of an order that returns a bool, in whatever world comes of w0 with the blocks of D as they are -/
def IsHolds (fn : Nat) (caps : Array Value) (h : Int → Bool) (D : Nat → Prop) (w0 : World) : Prop :=
  Ent fn ∧ ∀ (n : Int) (w : World), Kept D w0 w → Calls Try.prog fn (#[.int .i64 n] ++ caps) w fun e w' => e = .returned (.bool (h n)) ∧ Below w.heap.size w w'
theorem hold31 (w0 : World) : IsHolds 31 #[] (fun n => decide (n < 0)) (fun _ => False) w0 := by
  refine ⟨by intro args w; simp, fun n w _ => ?_⟩
  go_enter Try.func31, Try.ntmps31
  go_wp2
  go_ret
  exact ⟨rfl, Below.refl _ _⟩
theorem hold32 (w0 : World) : IsHolds 32 #[] (fun n => decide (n ≤ 0)) (fun _ => False) w0 := by
  refine ⟨by intro args w; simp, fun n w _ => ?_⟩
  go_enter Try.func32, Try.ntmps32
  go_wp2
  go_ret
  exact ⟨rfl, Below.refl _ _⟩
theorem hold33 (w0 : World) : IsHolds 33 #[] (fun n => decide (0 < n)) (fun _ => False) w0 := by
  refine ⟨by intro args w; simp, fun n w _ => ?_⟩
  go_enter Try.func33, Try.ntmps33
  go_wp2
  go_ret
  exact ⟨rfl, Below.refl _ _⟩
theorem hold34 (w0 : World) : IsHolds 34 #[] (fun n => decide (0 ≤ n)) (fun _ => False) w0 := by
  refine ⟨by intro args w; simp, fun n w _ => ?_⟩
  go_enter Try.func34, Try.ntmps34
  go_wp2
  go_ret
  exact ⟨rfl, Below.refl _ _⟩
/-- a function of a bool that returns a bool -/
def IsAsk (fn : Nat) (h : Bool → Bool) : Prop := Ent fn ∧ ∀ (b : Bool) (w : World), Calls Try.prog fn #[.bool b] w fun e w' => e = .returned (.bool (h b)) ∧ w = w'
theorem ask36 : IsAsk 36 (fun b => b) := by
  refine ⟨by intro args w; simp, fun n w => ?_⟩
  go_enter Try.func36, Try.ntmps36
  go_wp2
  go_ret
  exact ⟨rfl, rfl⟩
theorem ask37 : IsAsk 37 (fun b => !b) := by
  refine ⟨by intro args w; simp, fun n w => ?_⟩
  go_enter Try.func37, Try.ntmps37
  go_wp2
  go_ret
  exact ⟨rfl, rfl⟩
def ordAns (h : Int → Bool) (a b : Int) : Ans := ⟨2, b2i (h (ord a b)), 0⟩
theorem At.facts {w : World} {b : Nat} {t n : Int} {k : Value} (h : At w b t n k) : w.cell? ⟨b, 0, none⟩ = some (.int .i64 t) ∧ w.cell? ⟨b, 1, none⟩ = some (.int .i64 n) ∧ w.cell? ⟨b, 2, none⟩ = some k ∧ w.frozen? ⟨b, 0, none⟩ = false ∧ w.frozen? ⟨b, 1, none⟩ = false ∧ w.frozen? ⟨b, 2, none⟩ = false :=
  ⟨h.cells.1, h.cells.2.1, h.cells.2.2, by have := (h.2 0 (by omega)).2; simpa using this, by have := (h.2 1 (by omega)).2; simpa using this, by have := (h.2 2 (by omega)).2; simpa using this⟩
theorem keepc {w w' : World} {B c : Nat} {v : Value} (hb : Below B w w') (hc : c < B) (h : w.cell? ⟨c, 0, none⟩ = some v) : w'.cell? ⟨c, 0, none⟩ = some v := by rw [hb.cell (by exact hc)]; exact h
set_option maxHeartbeats 800000 in
theorem ordC (fn : Nat) (caps : Array Value) (h : Int → Bool) (w0 : World) (D : Nat → Prop) (hf : IsHolds fn caps h D w0) (a b : Int) (c : Nat) (w : World) (hw : Kept D w0 w) (hc : w.cell? ⟨c, 0, none⟩ = some (.func (.func fn) #[] caps)) :
    Calls Try.prog 42 #[.int .i64 a, .int .i64 b, .pointer (some ⟨c, 0, none⟩)] w fun e w' => e = .returned (AV (ordAns h a b)) ∧ Below w.heap.size w w' := by
  have hc1 := pointer_fn w c _ zO hc
  obtain ⟨hent, HF⟩ := hf
  have HF := Lib.hid HF
  unfold Ent at hent
  have hlt := World.block_lt_of_cell? w _ hc
  clear hc
  have hB : Kept D w0 ((w.alloc zO).drewN 1) := hw.below (below_drewN (below_alloc w zO) 1)
  have HT := Lib.hid (at_new w 0 0 nilS)
  go_enter Try.func42, Try.ntmps42
  go_wp2_with fail
  go_region_held3 (fun w' => w'.cell? ⟨c, 0, none⟩ = some (.func (.func fn) #[] caps)) (first | assumption | exact keepc (below_cells w.heap.size 0 [_, _, _] w2).1 hlt (keepc hb2 (by have := hb1.size; simp at this; omega) (keepc hb1 (by simp; omega) hc1)) | exact keepc hb2 (by have := hb1.size; simp at this; omega) (keepc hb1 (by simp; omega) hc1) | exact keepc hb1 (by simp; omega) hc1 | skip)
    (first | (go_at_call 43; refine (cmpC _ _ _).mono ?_; rintro e w' ⟨rfl, rfl⟩) | (refine (HF.out _ _ hB).mono ?_; rintro e w1 ⟨rfl, hb1⟩; replace hb1 : Below (w.alloc zO).heap.size (w.alloc zO) w1 := (below_drewN (Below.refl _ _) 1).trans hb1) | (go_at_call 17; refine (boolC _ _).mono ?_; rintro e w2 ⟨rfl, hb2⟩; obtain ⟨u0, u1, u2, v0, v1, v2⟩ := ((HT.out.below hb1 (by simp)).below hb2 (by have := hb1.size; simp at this; omega)).facts))
  have HT2 := (HT.out.below hb1 (by simp)).below hb2 (by have := hb1.size; simp at this; omega)
  go_wp2
  refine bodyPost_ret (ret_cell2 (cs := [_, _, _]) Try.results42 Try.underlying26 rfl info26s _ _ w.heap.size rfl (World.rangeAt_setCells_same w2 w.heap.size 0 [_, _, _] HT2.2)) rfl ?_
  have s1 := hb1.size
  simp only [World.size_alloc] at s1
  exact ⟨rfl, (((below_alloc w zO).trans (hb1.mono (by simp))).trans (hb2.mono (by omega))).trans (below_cells w.heap.size 0 [_, _, _] w2).1⟩

theorem hold44 (fn : Nat) (h : Bool → Bool) (hf : IsAsk fn h) (c : Nat) (w0 : World) (hc : w0.cell? ⟨c, 0, none⟩ = some (.func (.func fn) #[] #[])) : IsHolds 44 #[.pointer (some ⟨c, 0, none⟩)] (fun n => h (n == 0)) (fun k => k = c) w0 := by
  refine ⟨by intro args w; simp, fun n w hw => ?_⟩
  have hc1 := hw.cell rfl hc
  obtain ⟨hent, HF⟩ := hf
  have HF := Lib.hid HF
  unfold Ent at hent
  go_enter Try.func44, Try.ntmps44
  go_wp2_with fail
  refine (HF.out _ _).mono ?_
  rintro e w1 ⟨rfl, rfl⟩
  go_wp2
  go_ret
  exact ⟨rfl, Below.refl _ _⟩
/-- a function of two bools that returns a bool -/
def IsBools (fn : Nat) (caps : Array Value) (f : Bool → Bool → Bool) (D : Nat → Prop) (w0 : World) : Prop :=
  Ent fn ∧ ∀ (a b : Bool) (w : World), Kept D w0 w → Calls Try.prog fn (#[.bool a, .bool b] ++ caps) w fun e w' => e = .returned (.bool (f a b)) ∧ Below w.heap.size w w'
theorem bools45 (fn : Nat) (h : Bool → Bool) (hf : IsAsk fn h) (c : Nat) (w0 : World) (hc : w0.cell? ⟨c, 0, none⟩ = some (.func (.func fn) #[] #[])) : IsBools 45 #[.pointer (some ⟨c, 0, none⟩)] (fun a b => h (a == b)) (fun k => k = c) w0 := by
  refine ⟨by intro args w; simp, fun a b w hw => ?_⟩
  have hc1 := hw.cell rfl hc
  obtain ⟨hent, HF⟩ := hf
  have HF := Lib.hid HF
  unfold Ent at hent
  go_enter Try.func45, Try.ntmps45
  go_wp2_with fail
  refine (HF.out _ _).mono ?_
  rintro e w1 ⟨rfl, rfl⟩
  go_wp2
  go_ret
  exact ⟨rfl, Below.refl _ _⟩
theorem bools38 (w0 : World) : IsBools 38 #[] (fun a b => a && b) (fun _ => False) w0 := by
  refine ⟨by intro args w; simp, fun a b w hw => ?_⟩
  cases a <;> cases b <;>
  · go_enter Try.func38, Try.ntmps38
    go_wp2
    go_ret
    exact ⟨rfl, Below.refl _ _⟩
theorem bools39 (w0 : World) : IsBools 39 #[] (fun a b => a || b) (fun _ => False) w0 := by
  refine ⟨by intro args w; simp, fun a b w hw => ?_⟩
  cases a <;> cases b <;>
  · go_enter Try.func39, Try.ntmps39
    go_wp2
    go_ret
    exact ⟨rfl, Below.refl _ _⟩
end Go.Proofs.Ytehihpfhcphdoaa
