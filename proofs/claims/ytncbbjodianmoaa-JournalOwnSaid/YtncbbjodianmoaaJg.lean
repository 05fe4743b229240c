/- What 'slices.Backward' goes through: a row of closures, the last one first. Conditions: the row lies in memory, and each round leaves it as it was. -/
import Derived.RangeFuncNested
import Derived.RangeFuncBound
import Derived.RangeFuncCalls
import Derived.RangeFuncLeaves
import Derived.Shelf.Abstract
import Derived.Shelf.RegionOpen
import Derived.WalkKit
import Derived.OwnWalkIn
import Derived.TacticsInMore
import Derived.LoopNIn
import Derived.LoopIn
import Derived.Test.YtncbbjodianmoaaJf
namespace Go.Proofs.Ytncbbjodianmoaa
open Go.RowKit Go.Shelf
attribute [local go_sem] Oper.semAt_some
set_option linter.unusedSimpArgs false
set_option linter.unusedVariables false

/-- the closure that changes nothing -/
abbrev lv : Value := .func (.func 53) #[] #[]
/-- what a round keeps: the blocks of D -/
def KpD (D : Nat → Prop) (W W' : World) : Prop := ∀ b, D b → W'.heap[b]? = W.heap[b]?
theorem KpD.refl (D : Nat → Prop) (W : World) : KpD D W W := fun _ _ => rfl
theorem KpD.t {D : Nat → Prop} {A B C : World} (h : KpD D A B) (k : KpD D B C) : KpD D A C := fun b hb => (k b hb).trans (h b hb)
theorem KpD.b {D : Nat → Prop} {w : World} (hD : ∀ b, D b → b < w.heap.size) (W : World) (l : Nat) (o o' : Obj) (hl : w.heap.size ≤ l) (_ : W.heap[l]? = some o) (_ : o.isCells = false) (_ : o.isWalk = false) : KpD D W (W.putObj l o') := fun b hb =>
  World.putObj_heap_other (by have := hD b hb; omega)
/-- the numbers of the last r of n -/
def lasts (n r : Nat) : List Nat := (List.range r).map fun j => n - 1 - j
theorem lasts_succ (n r : Nat) : lasts n (r + 1) = lasts n r ++ [n - 1 - r] := by simp [lasts, List.range_succ]
theorem lasts_length (n r : Nat) : (lasts n r).length = r := by simp [lasts]
abbrev encB (gs : List Value) (x : Nat) : Array Value := #[.int .i64 (x : Int), gs.getD x lv]

set_option maxRecDepth 100000 in
set_option maxHeartbeats 2000000 in
theorem back1 (n : Nat) (hn : 1 ≤ n) (l Bs : Nat) (D : Nat → Prop) (A : Option Addr) (cap : Nat) (gs : List Value) (hsm : gs.length ≤ 1000) (J Jx : List Nat → World → Prop)
    (hY : ∀ pre x W, J pre W → pre.length < gs.length → YieldAt Fence.wide (n - 1) Try.prog l (encB gs x) W fun e W' =>
      (e = .returned (.bool true) ∧ J (pre ++ [x]) W' ∧ KpD D W W') ∨ (e = .returned (.bool false) ∧ Jx (pre ++ [x]) W'))
    (W : World) (hBs : W.cell? ⟨Bs, 0, none⟩ = some (.slice A gs.length cap)) (hDB : D Bs) (hc : ∀ j, j < gs.length → ∃ g o, A = some ⟨g, o, none⟩ ∧ D g ∧ W.cell? ⟨g, o + j, none⟩ = some (gs.getD j lv)) (h0 : J [] W) :
    CallsIn Fence.wide n Try.prog 54 #[.func (.yield l) #[] #[], .pointer (some ⟨Bs, 0, none⟩)] W fun e W' => (∃ v, e = .returned v) ∧
      ((∃ ys, ys = lasts gs.length gs.length ∧ J ys W') ∨ (∃ pre, True ∧ Jx pre W')) := by
  refine callsIn_of_wp Try.func54 rfl trivial ?_ rfl
  simp only [Try.ntmps54, List.size_toArray, List.length_cons, List.length_nil, Nat.reduceAdd, Nat.reduceSub, Array.replicate_succ, Array.replicate_zero, List.push_toArray, List.append_toArray, List.nil_append, List.cons_append]
  gi_wp2
  gi_loopw [3] (fun i wr => ∃ r q : Nat, r + q = gs.length ∧ i = .int .i64 ((q : Int) - 1) ∧ J (lasts gs.length r) wr ∧ KpD D W wr)
    (fun i _ => (intOf i + 1).toNat)
  case atStart => exact ⟨0, gs.length, by omega, by go_num, h0, KpD.refl _ _⟩
  case round =>
    obtain ⟨r, q, hrq, rfl, hJs, hnx⟩ := hrel
    have hcb : wr.cell? ⟨Bs, 0, none⟩ = some (.slice A gs.length cap) := (World.cell?_of_block (a := ⟨Bs, 0, none⟩) (w := W) (hnx Bs hDB)).trans hBs
    cases q with
    | zero =>
      obtain rfl : r = gs.length := by omega
      gi_wp2
      go_end0
      exact ⟨⟨_, rfl⟩, .inl ⟨_, rfl, hJs⟩⟩
    | succ q =>
      have e : ((q + 1 : Nat) : Int) - 1 = (q : Int) := by omega
      rw [e]
      obtain ⟨g, o, rfl, hDg, hcx0⟩ := hc q (by omega)
      have hcx : wr.cell? ⟨g, o + q, none⟩ = some (gs.getD q lv) := (World.cell?_of_block (a := ⟨g, o + q, none⟩) (w := W) (hnx g hDg)).trans hcx0
      obtain ⟨fn, tmps, assign, body, hy, hR⟩ := hY _ q wr hJs (by rw [lasts_length]; omega)
      dsimp only [encB] at hy
      have hq : q < gs.length := by omega
      have hl : lasts gs.length (r + 1) = lasts gs.length r ++ [q] := by rw [lasts_succ]; congr 2; omega
      clear hcx0 e
      generalize gs.getD q lv = v at *
      gi_wp2
      refine hR.mono ?_
      rintro e W3 (⟨rfl, hJ3, hk3⟩ | ⟨rfl, hJx3⟩)
      · gi_wp2
        go_roundw
        case rel => exact ⟨r + 1, q, by omega, by go_num, by rw [hl]; exact hJ3, hnx.t hk3⟩
        case measure => simp [intOf] <;> omega
      · gi_wp2
        refine bodyPost_ret (results_none rfl _ _ _) rfl ?_
        exact ⟨⟨_, rfl⟩, .inr ⟨_, trivial, hJx3⟩⟩

theorem back_stops (n : Nat) (hn : 1 ≤ n) (Bs : Nat) (D : Nat → Prop) (A : Option Addr) (cap : Nat) (gs : List Value) (hsm : gs.length ≤ 1000) (w : World) (hBs : w.cell? ⟨Bs, 0, none⟩ = some (.slice A gs.length cap)) (hDB : D Bs) (hDlt : ∀ b, D b → b < w.heap.size)
    (hc : ∀ j, j < gs.length → ∃ g o, A = some ⟨g, o, none⟩ ∧ D g ∧ w.cell? ⟨g, o + j, none⟩ = some (gs.getD j lv)) :
    SeqStopsK Fence.wide n Try.prog 54 #[.pointer (some ⟨Bs, 0, none⟩)] (encB gs) (KpD D) (fun ys => ys = lasts gs.length gs.length) (fun _ => True) gs.length w := fun l J Jx W hW _ _ hY h0 =>
  back1 n hn l Bs D A cap gs hsm J Jx hY W ((hW.cell (p := ⟨Bs, 0, none⟩) (hDlt _ hDB)).trans hBs) hDB (fun j hj => by
    obtain ⟨g, o, e, hDg, h⟩ := hc j hj
    exact ⟨g, o, e, hDg, (hW.cell (p := ⟨g, o + j, none⟩) (hDlt _ hDg)).trans h⟩) h0

set_option maxHeartbeats 400000 in
theorem backwardC (A : Option Addr) (n c : Nat) (w : World) :
    Calls Try.prog 38 #[.slice A n c] w fun e w' => e = .returned (.func (.func 54) #[] #[.pointer (some ⟨w.heap.size, 0, none⟩)]) ∧ w.alloc (.cells #[.slice A n c] 52) = w' := by
  go_enter Try.func38, Try.ntmps38
  go_wp2
  go_ret
  exact ⟨rfl, rfl⟩
end Go.Proofs.Ytncbbjodianmoaa
