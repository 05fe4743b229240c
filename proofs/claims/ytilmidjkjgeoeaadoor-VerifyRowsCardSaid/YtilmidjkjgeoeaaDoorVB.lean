/- Small functions: an index among so many; a slot's type read, written; what two states know alike. Conditions: those in each theorem. -/
import Derived.Test.YtilmidjkjgeoeaaDoorCA
import Derived.Test.YtilmidjkjgeoeaaDoorVA
namespace Go.Proofs.YtilmidjkjgeoeaaDoor
open Go.RowKit
set_option maxRecDepth 100000
set_option linter.unusedVariables false
set_option linter.unusedSimpArgs false
theorem withinC (i n : Int) (w : World) : Calls Tryd.prog 35 #[.int .i64 i, .int .i64 n] w fun e w' => e = .returned (.bool (decide (0 ≤ i ∧ i < n))) ∧ w = w' := by
  by_cases h1 : 0 ≤ i
  · by_cases h2 : i < n
    · have e : decide (0 ≤ i ∧ i < n) = true := by simp [h1, h2]
      rw [e]
      clear e
      go_enter Tryd.func35, Tryd.ntmps35
      go_wp2
      go_ret
      exact ⟨rfl, rfl⟩
    · have e : decide (0 ≤ i ∧ i < n) = false := by simp [h2]
      rw [e]
      clear e
      go_enter Tryd.func35, Tryd.ntmps35
      go_wp2
      go_ret
      exact ⟨rfl, rfl⟩
  · have e : decide (0 ≤ i ∧ i < n) = false := by simp [h1]
    rw [e]
    clear e
    go_enter Tryd.func35, Tryd.ntmps35
    go_wp2
    go_ret
    exact ⟨rfl, rfl⟩
/-- a state in a block of its own: the stack's number, eight words -/
def stC (n : Nat) (xs : List Nat) : List Value := .int .i64 n :: xs.map fun x => Value.int .u64 (x : Nat)
def stO (n : Nat) (xs : List Nat) : Obj := .cells (stC n xs).toArray 67 (0, 0)
/-- eight words -/
def Ws8 (xs : List Nat) : Prop := xs.length = 8 ∧ ∀ x ∈ xs, x < 18446744073709551616
def WsAt (w : World) (S o : Nat) (xs : List Nat) : Prop := xs.length = 8 ∧ (∀ x ∈ xs, x < 18446744073709551616) ∧ ∀ (k x : Nat), xs[k]? = some x → w.cell? ⟨S, o + k, none⟩ = some (.int .u64 x)
/-- a slot's type, in eight words -/
def slOf (xs : List Nat) (j : Nat) : Nat := dg (xs[j / 32]?.getD 0) (j % 32)
theorem shr_cast (x r : Nat) : ((x : Int) / 2 ^ (r * 2)) = ((x / 2 ^ (2 * r) : Nat) : Int) := by
  rw [Nat.mul_comm 2 r]
  push_cast
  rfl
theorem word_get {x r : Nat} (hx : x < 18446744073709551616) : bits .and .u64 ((x : Int) / 2 ^ (r * 2)) 3 = ((dg x r : Nat) : Int) := by
  have h1 := u64_and_nat (x / 2 ^ (2 * r)) 3 (Nat.lt_of_le_of_lt (Nat.div_le_self _ _) hx) (by omega)
  rw [show ((3 : Nat) : Int) = 3 from rfl] at h1
  rw [shr_cast, h1, show (3 : Nat) = 2 ^ 2 - 1 by rfl, Nat.and_two_pow_sub_one_eq_mod]
  rfl
set_option maxHeartbeats 400000 in
theorem getC (S o : Nat) (xs : List Nat) (j : Nat) (w : World) (h : WsAt w S o xs) (hj : j < 256) : Calls Tryd.prog 36 #[.pointer (some ⟨S, o, none⟩), .int .i64 j] w fun e w' => e = .returned (.int .i64 (slOf xs j : Nat)) ∧ w = w' := by
  obtain ⟨h1, h2, h3⟩ := h
  obtain ⟨x, hx⟩ : ∃ x, xs[j / 32]? = some x := ⟨xs[j / 32]'(by omega), List.getElem?_eq_getElem _⟩
  have hc := h3 _ x hx
  have hlt := h2 x (List.mem_of_getElem? hx)
  have hw := word_get (r := j % 32) hlt
  have hd := dg_lt x (j % 32)
  have hs : slOf xs j = dg x (j % 32) := by unfold slOf; rw [hx]; rfl
  rw [hs]
  clear h1 h2 h3 hx hs
  have hq : j / 32 < 8 := by omega
  have hr : j % 32 < 32 := by omega
  have e1 : (j : Int) / 32 = ((j / 32 : Nat) : Int) := by omega
  have e2 : (j : Int) % 32 = ((j % 32 : Nat) : Int) := by omega
  generalize j / 32 = q at *
  generalize j % 32 = r at *
  generalize dg x r = d at *
  go_enter Tryd.func36, Tryd.ntmps36
  go_wp2
  go_ret
  exact ⟨rfl, rfl⟩
theorem stO_ws {w : World} {S n : Nat} {xs : List Nat} (h : w.heap[S]? = some (stO n xs)) (hx : Ws8 xs) : WsAt w S 1 xs := by
  refine ⟨hx.1, hx.2, fun k x hk => ?_⟩
  rw [Nat.add_comm 1 k]
  unfold stO at h
  simp [World.cell?, h, stC, hk]
def slSet (xs : List Nat) (j t : Nat) : List Nat := xs.set (j / 32) (dgSet (xs[j / 32]?.getD 0) (j % 32) t)
theorem shl_cast (t r : Nat) : ((t : Int) * 2 ^ (r * 2)) = ((t * 2 ^ (2 * r) : Nat) : Int) := by
  rw [Nat.mul_comm 2 r]
  push_cast
  rfl
theorem word_shl {t r : Nat} (ht : t < 4) (hr : r < 32) : IntKind.u64.wrap ((t : Int) * 2 ^ (r * 2)) = ((t * 2 ^ (2 * r) : Nat) : Int) := by
  have := shl_lt ht hr
  rw [shl_cast, IntKind.wrap_u64]
  omega
theorem word_set {x r t : Nat} (hx : x < 18446744073709551616) (ht : t < 4) (hr : r < 32) : bits .or .u64 (bits .andNot .u64 (x : Int) ((3 * 2 ^ (2 * r) : Nat) : Int)) ((t * 2 ^ (2 * r) : Nat) : Int) = ((dgSet x r t : Nat) : Int) := by
  have h3 : 3 * 2 ^ (2 * r) < 18446744073709551616 := shl_lt (by omega) hr
  have h4 : t * 2 ^ (2 * r) < 18446744073709551616 := shl_lt ht hr
  rw [u64_andNot_nat _ _ hx h3, u64_or_nat _ _ (Nat.lt_of_le_of_lt Nat.and_le_left hx) h4]
  rfl
set_option maxHeartbeats 400000 in
theorem setC (S n : Nat) (xs : List Nat) (j t : Nat) (w : World) (h : w.heap[S]? = some (stO n xs)) (hx : Ws8 xs) (hj : j < 256) (ht : t < 4) : Calls Tryd.prog 33 #[.pointer (some ⟨S, 1, none⟩), .int .i64 j, .int .i64 t] w fun e w' => e = .returned (.tuple #[]) ∧ w'.heap[S]? = some (stO n (slSet xs j t)) ∧ w.grownBy w' (some S) ∧ w'.heap.size = w.heap.size := by
  obtain ⟨h1, h2, h3⟩ := stO_ws h hx
  obtain ⟨x, hxx⟩ : ∃ x, xs[j / 32]? = some x := ⟨xs[j / 32]'(by omega), List.getElem?_eq_getElem _⟩
  have hc := h3 _ x hxx
  have hlt := h2 x (List.mem_of_getElem? hxx)
  have hq : j / 32 < 8 := by omega
  have hr : j % 32 < 32 := by omega
  have hw := word_set hlt ht hr
  have hs1 : IntKind.u64.wrap (3 * 2 ^ (j % 32 * 2)) = ((3 * 2 ^ (2 * (j % 32)) : Nat) : Int) := word_shl (t := 3) (by omega) hr
  have hfz : w.frozen? ⟨S, 1 + j / 32, none⟩ = false := by unfold stO at h; simp [World.frozen?, h]
  have hs2 := word_shl ht hr
  have hs : slSet xs j t = xs.set (j / 32) (dgSet x (j % 32) t) := by unfold slSet; rw [hxx]; rfl
  have HX := Lib.hid (And.intro h (And.intro hx hs))
  clear h1 h2 h3 hxx hs h hx
  have e1 : (j : Int) / 32 = ((j / 32 : Nat) : Int) := by omega
  have e2 : (j : Int) % 32 = ((j % 32 : Nat) : Int) := by omega
  generalize j / 32 = q at *
  generalize j % 32 = r at *
  generalize dgSet x r t = d at *
  generalize 3 * 2 ^ (2 * r) = m3 at *
  generalize t * 2 ^ (2 * r) = m4 at *
  go_enter Tryd.func33, Tryd.ntmps33
  go_wp2_with fail
  go_region
  go_end0
  obtain ⟨g1, g2, g3⟩ := HX.out
  refine ⟨rfl, ?_, ⟨rfl, rfl, rfl, ?_, fun i hi hne => ?_⟩, ?_⟩
  · rw [g3, heap_drew, heap_setCell_same w S (1 + q) _ 67 _ g1]
    unfold stO stC
    rw [Nat.add_comm 1 q]
    simp [List.map_set]
  · simp [World.setCell]
  · rw [heap_drew]
    exact heap_setCell_other w _ i _ (fun e => hne (by rw [e]))
  · simp [World.setCell]
end Go.Proofs.YtilmidjkjgeoeaaDoor
