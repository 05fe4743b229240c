/- The reader's place in memory, and what its closures read: a number, a byte string, a row. Conditions: the place lies where the closures say. -/
import Derived.Test.YtecjkmemihmkcaaDoorZg
import Derived.Test.YtecjkmemihmkcaaDoorY
namespace Go.Proofs.YtecjkmemihmkcaaDoor
set_option maxRecDepth 100000
open Go.RowKit
set_option linter.unusedSimpArgs false
set_option linter.unusedVariables false

/-- the bytes that are read -/
structure Sc where
  A : Option Addr
  c : Nat
  l : List Int
  hby : Byt l
  hc : l.length ≤ c
  hcm : c ≤ maxLen
/-- the place of a reading, in block R of type T -/
def At (w : World) (R T : Nat) (S : Sc) (p e : Int) : Prop := w.heap[R]? = some (.cells #[.slice S.A S.l.length S.c, .int .i64 p, .int .i64 e] T (0, 0)) ∧ Lies w R S.A S.c (cellsOf S.l)
def StIs (S : Sc) (σ : Rd Unit) (p e : Int) : Prop := (σ = .ok () p ∧ e = 0 ∧ 0 ≤ p ∧ p ≤ S.l.length) ∨ (σ = .bad e ∧ e ≠ 0)
def PlS (w : World) (R T : Nat) (S : Sc) (σ : Rd Unit) : Prop := ∃ p e, At w R T S p e ∧ StIs S σ p e
theorem At.lt {w : World} {R T : Nat} {S : Sc} {p e : Int} (h : At w R T S p e) : R < w.heap.size := lt_of_some h.1
theorem PlS.lt {w : World} {R T : Nat} {S : Sc} {σ : Rd Unit} (h : PlS w R T S σ) : R < w.heap.size := by
  obtain ⟨p, e, h, _⟩ := h
  exact h.lt
theorem At.cell {w : World} {R T : Nat} {S : Sc} {p e : Int} (h : At w R T S p e) : w.cell? ⟨R, 0, none⟩ = some (.slice S.A S.l.length S.c) ∧ w.cell? ⟨R, 1, none⟩ = some (.int .i64 p) ∧ w.cell? ⟨R, 2, none⟩ = some (.int .i64 e) ∧ (∀ k, w.frozen? ⟨R, k, none⟩ = false) := by
  refine ⟨?_, ?_, ?_, fun k => ?_⟩
  · rw [cell_of_row _ _ _ _ _ _ h.1]; rfl
  · rw [cell_of_row _ _ _ _ _ _ h.1]; rfl
  · rw [cell_of_row _ _ _ _ _ _ h.1]; rfl
  · simp [World.frozen?, h.1]
theorem At.low {w w' : World} {R T : Nat} {S : Sc} {p e : Int} (h : At w R T S p e) {B : Nat} (hb : Below B w w') (hR : R < B) : At w' R T S p e := ⟨by rw [hb.block R hR]; exact h.1, h.2.below (hb.mono (by omega))⟩
theorem PlS.low {w w' : World} {R T : Nat} {S : Sc} {σ : Rd Unit} (h : PlS w R T S σ) {B : Nat} (hb : Below B w w') (hR : R < B) : PlS w' R T S σ := by
  obtain ⟨p, e, h1, h2⟩ := h
  exact ⟨p, e, h1.low hb hR, h2⟩
/-- what a reading comes to, in memory -/
def Got {α : Type} (R T : Nat) (S : Sc) (w : World) (r : Rd α) (V : World → α → Value → Prop) (Z : World → Value → Prop) (e : Ending) (w' : World) : Prop :=
  ∃ v, e = .returned v ∧ Moves R w w' ∧ PlS w' R T S r.st ∧ Z w' v ∧ ∀ a q, r = .ok a q → V w' a v
/-- a block that holds one cell -/
def One (w : World) (b T : Nat) (v : Value) : Prop := w.heap[b]? = some (.cells #[v] T (0, 0))
theorem One.cell {w : World} {b T : Nat} {v : Value} (h : One w b T v) : w.cell? ⟨b, 0, none⟩ = some v := by rw [cell_of_row _ _ _ _ _ _ h]; rfl
theorem One.ne {w : World} {b T R T' : Nat} {v : Value} {S : Sc} {p e : Int} (h : One w b T v) (ha : At w R T' S p e) (hT : T ≠ T') : b ≠ R := by
  rintro rfl
  have := ha.1
  rw [h] at this
  injection this with this
  injection this with _ this _
  exact hT this
theorem One.moves {w w' : World} {b T R : Nat} {v : Value} (h : One w b T v) (hm : Moves R w w') (hb : b ≠ R) : One w' b T v := by
  show w'.heap[b]? = _
  rw [hm.at (lt_of_some h) hb]
  exact h
theorem At.set {w : World} {R T : Nat} {S : Sc} {p e : Int} (h : At w R T S p e) (p' e' : Int) : At ((w.setCell ⟨R, 1, none⟩ (.int .i64 p')).setCell ⟨R, 2, none⟩ (.int .i64 e')) R T S p' e' ∧ Moves R w ((w.setCell ⟨R, 1, none⟩ (.int .i64 p')).setCell ⟨R, 2, none⟩ (.int .i64 e')) := by
  have k1 := heap_setCell_same w R 1 _ T (.int .i64 p') h.1
  have k2 := heap_setCell_same (w.setCell ⟨R, 1, none⟩ (.int .i64 p')) R 2 _ T (.int .i64 e') k1
  have hk : ∀ k, k ≠ R → ((w.setCell ⟨R, 1, none⟩ (.int .i64 p')).setCell ⟨R, 2, none⟩ (.int .i64 e')).heap[k]? = w.heap[k]? := fun k hk => by
    rw [Below.heap_setCell _ _ _ k hk, Below.heap_setCell _ _ _ k hk]
  refine ⟨⟨k2, h.2.below ⟨rfl, rfl, rfl, by simp, fun k hk' => hk k (by omega)⟩⟩, ⟨rfl, rfl, rfl, by simp, fun k _ hr => hk k (fun e => hr (by rw [e]))⟩⟩
/-- the first store leaves what the region reads -/
theorem At.set1 {w : World} {R T : Nat} {S : Sc} {p e : Int} (h : At w R T S p e) (p' : Int) : At (w.setCell ⟨R, 1, none⟩ (.int .i64 p')) R T S p' e ∧ Moves R w (w.setCell ⟨R, 1, none⟩ (.int .i64 p')) := by
  have k1 := heap_setCell_same w R 1 _ T (.int .i64 p') h.1
  have hk : ∀ k, k ≠ R → (w.setCell ⟨R, 1, none⟩ (.int .i64 p')).heap[k]? = w.heap[k]? := fun k hk => Below.heap_setCell _ _ _ k hk
  exact ⟨⟨k1, h.2.below ⟨rfl, rfl, rfl, by simp, fun k hk' => hk k (by omega)⟩⟩, ⟨rfl, rfl, rfl, by simp, fun k _ hr => hk k (fun e => hr (by rw [e]))⟩⟩
theorem At.set2 {w : World} {R T : Nat} {S : Sc} {p e : Int} (h : At w R T S p e) (e' : Int) : At (w.setCell ⟨R, 2, none⟩ (.int .i64 e')) R T S p e' ∧ Moves R w (w.setCell ⟨R, 2, none⟩ (.int .i64 e')) := by
  have k1 := heap_setCell_same w R 2 _ T (.int .i64 e') h.1
  have hk : ∀ k, k ≠ R → (w.setCell ⟨R, 2, none⟩ (.int .i64 e')).heap[k]? = w.heap[k]? := fun k hk => Below.heap_setCell _ _ _ k hk
  exact ⟨⟨k1, h.2.below ⟨rfl, rfl, rfl, by simp, fun k hk' => hk k (by omega)⟩⟩, ⟨rfl, rfl, rfl, by simp, fun k _ hr => hk k (fun e => hr (by rw [e]))⟩⟩
/-- what a reading closure sees: its two boxes and the bytes -/
def See (R b1 b2 fn : Nat) (S : Sc) (w : World) : Prop := w.cell? ⟨b1, 0, none⟩ = some (.pointer (some ⟨R, 0, none⟩)) ∧ w.cell? ⟨b2, 0, none⟩ = some (.func (.func fn) #[] #[]) ∧ w.cell? ⟨R, 0, none⟩ = some (.slice S.A S.l.length S.c)
theorem see_all {w : World} {R b1 b2 T1 T2 T fn : Nat} {S : Sc} {p e : Int} (ha : At w R T S p e) (h1 : One w b1 T1 (.pointer (some ⟨R, 0, none⟩))) (h2 : One w b2 T2 (.func (.func fn) #[] #[])) (n1 : b1 ≠ R) (n2 : b2 ≠ R) :
    See R b1 b2 fn S w ∧ (∀ p', See R b1 b2 fn S (w.setCell ⟨R, 1, none⟩ (.int .i64 p'))) ∧ (∀ p' e', See R b1 b2 fn S ((w.setCell ⟨R, 1, none⟩ (.int .i64 p')).setCell ⟨R, 2, none⟩ (.int .i64 e'))) := by
  refine ⟨⟨h1.cell, h2.cell, ha.cell.1⟩, fun p' => ?_, fun p' e' => ?_⟩
  · obtain ⟨a1, m1⟩ := ha.set1 p'
    exact ⟨(h1.moves m1 n1).cell, (h2.moves m1 n2).cell, a1.cell.1⟩
  · obtain ⟨a1, m1⟩ := ha.set p' e'
    exact ⟨(h1.moves m1 n1).cell, (h2.moves m1 n2).cell, a1.cell.1⟩

set_option maxHeartbeats 800000 in
theorem readNum (R : Nat) (S : Sc) (σ : Rd Unit) (b1 b2 : Nat) (w : World) (h1 : One w b1 55 (.pointer (some ⟨R, 0, none⟩))) (h2 : One w b2 82 (.func (.func 51) #[] #[])) (h : PlS w R 57 S σ) :
    Calls Tryd.prog 72 #[.pointer (some ⟨b1, 0, none⟩), .pointer (some ⟨b2, 0, none⟩)] w (Got R 57 S w (σ.bind fun _ p => numR S.l p) (fun _ n v => v = .int .i64 n) (fun _ v => ∃ n, v = .int .i64 n)) := by
  obtain ⟨p, e, ha, hs⟩ := h
  have hn1 := h1.ne ha (by decide)
  have hn2 := h2.ne ha (by decide)
  have d1 := h1.cell
  have d2 := h2.cell
  obtain ⟨c0, c1, c2, c3⟩ := ha.cell
  have HA := Lib.hid ha
  have hlt := ha.lt
  have hbd := lt_of_some h1
  have hbe := lt_of_some h2
  have H1 := Lib.hid h1
  have H2 := Lib.hid h2
  clear h1 h2
  rcases hs with ⟨rfl, rfl, p0, pl⟩ | ⟨rfl, he⟩
  · rw [Rd.bind_ok]
    have had : At w.drew R 57 S p 0 := ha.low ((Below.refl (R + 1) w).drew) (Nat.lt_succ_self R)
    have hmx : p ≤ 9223372036854775807 := by have := S.hc; have := S.hcm; unfold maxLen at this; omega
    have K0 : Hid (Calls Tryd.prog 51 #[.slice S.A S.l.length S.c, .int .i64 p] w.drew fun e w' => ∃ v, e = .returned (.tuple #[v, .int .i64 (numB S.l p), .int .i64 (roomV S.l.length p 8)]) ∧ Below w.heap.size w.drew w' ∧ v = .int .i64 (numA S.l p)) := Lib.hid ((num S.A S.l S.c p w.drew R S.hc S.hcm (by omega) hmx had.2 S.hby).mono fun e w' h => ⟨_, h.1, h.2 ▸ Below.refl _ _, rfl⟩)
    have HS : Hid (See R b1 b2 51 S w.drew) := Lib.hid ⟨d1, d2, c0⟩
    unfold See at HS
    have hcp : w.drew.cell? ⟨R, 1, none⟩ = some (.int .i64 p) := c1
    clear ha had c3 c1
    go_enter Tryd.func72, Tryd.ntmps72
    go_wp2_with fail
    clear d1 d2 c0 c2
    refine wp_region_held_drew (S := fun w' => w'.cell? ⟨b1, 0, none⟩ = some (.pointer (some ⟨R, 0, none⟩)) ∧ w'.cell? ⟨b2, 0, none⟩ = some (.func (.func 51) #[] #[]) ∧ w'.cell? ⟨R, 0, none⟩ = some (.slice S.A S.l.length S.c)) (by kernel_rfl) HS.out (fun hHeld => ?_)
    refine wpAnyH_take (i := 0) (v := ?v0) rfl (by kernel_rfl) (by kernel_rfl) (by kernel_rfl) (fun _ _ _ h => h) (Or.inl ⟨by kernel_rfl, ?y0⟩) (by assumption) ?r0
    case y0 => (intro w hSw; (try dsimp only at hSw); go_simp; (try with_reducible rfl))
    try simp only [Act.put, List.getElem_toArray, List.getElem_cons_zero, List.getElem_cons_succ, List.setIfInBounds_toArray, List.set_cons_zero, List.set_cons_succ]
    refine wpAnyH_take (i := 1) (v := ?v1) rfl (by kernel_rfl) (by kernel_rfl) (by kernel_rfl) (fun _ _ _ h => h) (Or.inl ⟨by kernel_rfl, ?y1⟩) (by assumption) ?r1
    case y1 => (intro w hSw; (try dsimp only at hSw); go_simp; (try with_reducible rfl))
    try simp only [Act.put, List.getElem_toArray, List.getElem_cons_zero, List.getElem_cons_succ, List.setIfInBounds_toArray, List.set_cons_zero, List.set_cons_succ]
    refine wpAnyH_take (i := 2) (v := ?v2) rfl (by kernel_rfl) (by kernel_rfl) (by kernel_rfl) (fun _ _ _ h => h) (Or.inl ⟨by kernel_rfl, ?y2⟩) (by assumption) ?r2
    case y2 => (intro w hSw; (try dsimp only at hSw); go_simp; (try with_reducible rfl))
    try simp only [Act.put, List.getElem_toArray, List.getElem_cons_zero, List.getElem_cons_succ, List.setIfInBounds_toArray, List.set_cons_zero, List.set_cons_succ]
    refine wpAnyH_take (i := 3) (v := ?v3) rfl (by kernel_rfl) (by kernel_rfl) (by kernel_rfl) (fun _ _ _ h => h) (Or.inl ⟨by kernel_rfl, ?y3⟩) (by assumption) ?r3
    case y3 => (intro w hSw; (try dsimp only at hSw); go_simp; (try with_reducible rfl))
    try simp only [Act.put, List.getElem_toArray, List.getElem_cons_zero, List.getElem_cons_succ, List.setIfInBounds_toArray, List.set_cons_zero, List.set_cons_succ]
    refine wpAnyH_take (i := 4) (v := ?v4) rfl (by kernel_rfl) (by kernel_rfl) (by kernel_rfl) (fun _ _ _ h => h) (Or.inl ⟨by kernel_rfl, ?y4⟩) (by assumption) ?r4
    case y4 => (intro w hSw; (try dsimp only at hSw); go_simp; (try with_reducible rfl))
    try simp only [Act.put, List.getElem_toArray, List.getElem_cons_zero, List.getElem_cons_succ, List.setIfInBounds_toArray, List.set_cons_zero, List.set_cons_succ]
    refine wpAnyH_take (i := 5) (v := ?v5) rfl (by kernel_rfl) (by kernel_rfl) (by kernel_rfl) (fun _ _ _ h => h) (Or.inl ⟨by kernel_rfl, ?y5⟩) (by assumption) ?r5
    case y5 => (intro w hSw; (try dsimp only at hSw); go_simp; (try with_reducible rfl))
    try simp only [Act.put, List.getElem_toArray, List.getElem_cons_zero, List.getElem_cons_succ, List.setIfInBounds_toArray, List.set_cons_zero, List.set_cons_succ]
    refine wpAnyH_take (i := 6) (v := ?v6) rfl (by kernel_rfl) (by kernel_rfl) (by kernel_rfl) (fun _ _ _ h => h) (Or.inl ⟨by kernel_rfl, ?y6⟩) (by assumption) ?r6
    case y6 => (intro w hSw; (try dsimp only at hSw); go_simp; (try with_reducible rfl))
    try simp only [Act.put, List.getElem_toArray, List.getElem_cons_zero, List.getElem_cons_succ, List.setIfInBounds_toArray, List.set_cons_zero, List.set_cons_succ]
    refine wpAnyH_take (i := 7) (v := ?v7) rfl (by kernel_rfl) (by kernel_rfl) (by kernel_rfl) (fun _ _ _ h => h) (Or.inl ⟨by kernel_rfl, ?y7⟩) (by assumption) ?r7
    case y7 => (intro w hSw; (try dsimp only at hSw); go_simp; (try with_reducible rfl))
    try simp only [Act.put, List.getElem_toArray, List.getElem_cons_zero, List.getElem_cons_succ, List.setIfInBounds_toArray, List.set_cons_zero, List.set_cons_succ]
    refine wpAnyH_take (i := 8) (v := ?v8) rfl (by kernel_rfl) (by kernel_rfl) (by kernel_rfl) (fun _ _ _ h => h) (Or.inl ⟨by kernel_rfl, ?y8⟩) (by assumption) ?r8
    case y8 => (intro w hSw; (try dsimp only at hSw); go_simp; (try with_reducible rfl))
    try simp only [Act.put, List.getElem_toArray, List.getElem_cons_zero, List.getElem_cons_succ, List.setIfInBounds_toArray, List.set_cons_zero, List.set_cons_succ]
    refine wpAnyH_take (i := 9) (v := ?v9) rfl (by kernel_rfl) (by kernel_rfl) (by kernel_rfl) (fun _ _ _ h => h) (Or.inl ⟨by kernel_rfl, ?y9⟩) (by assumption) ?r9
    case y9 => (intro w hSw; (try dsimp only at hSw); go_simp; (try with_reducible rfl))
    try simp only [Act.put, List.getElem_toArray, List.getElem_cons_zero, List.getElem_cons_succ, List.setIfInBounds_toArray, List.set_cons_zero, List.set_cons_succ]
    refine wpAnyH_ready (rs := [10]) (by kernel_rfl) (by simp) ?_
    refine AllReadyH.cons rfl (fun K hK => ?_) AllReadyH.nil
    go_simp
    clear hcp
    refine hK.out _ _ HS.out (fun hHeld => ?_)
    clear hK K
    refine wpAnyH_ready (rs := [11]) (by kernel_rfl) (by simp) ?_
    refine AllReadyH.cons rfl (fun K hK => ?_) AllReadyH.nil
    go_simp
    refine K0.out.mono ?_
    clear K0
    rintro e w1 ⟨v, rfl, hb1, hv⟩
    have hbw : Below w.heap.size w w1 := ((Below.refl _ _).drew).trans hb1
    have A1 := Lib.hid (HA.out.low hbw hlt)
    have O1 := Lib.hid (show One w1 b1 55 _ from by show w1.heap[b1]? = _; rw [hbw.block b1 hbd]; exact H1.out)
    have O2 := Lib.hid (show One w1 b2 82 _ from by show w1.heap[b2]? = _; rw [hbw.block b2 hbe]; exact H2.out)
    have HS1 := Lib.hid (see_all A1.out O1.out O2.out hn1 hn2)
    have hfz := A1.out.cell.2.2.2
    obtain ⟨_, k1, k2, _⟩ := A1.out.cell
    have hv := Lib.hid hv
    have HBW := Lib.hid hbw
    unfold See at HS1
    clear hb1 hbw hHeld
    refine hK.out _ _ HS1.out.1 (fun hHeld => ?_)
    clear hK K
    refine wpAnyH_take (i := 12) (v := ?v12) rfl (by kernel_rfl) (by kernel_rfl) (by kernel_rfl) (fun _ _ _ h => h) (Or.inl ⟨by kernel_rfl, ?y12⟩) (by assumption) ?r12
    case y12 => (intro w hSw; (try dsimp only at hSw); go_simp; (try with_reducible rfl))
    try simp only [Act.put, List.getElem_toArray, List.getElem_cons_zero, List.getElem_cons_succ, List.setIfInBounds_toArray, List.set_cons_zero, List.set_cons_succ]
    refine wpAnyH_take (i := 13) (v := ?v13) rfl (by kernel_rfl) (by kernel_rfl) (by kernel_rfl) (fun _ _ _ h => h) (Or.inl ⟨by kernel_rfl, ?y13⟩) (by assumption) ?r13
    case y13 => (intro w hSw; (try dsimp only at hSw); go_simp; (try with_reducible rfl))
    try simp only [Act.put, List.getElem_toArray, List.getElem_cons_zero, List.getElem_cons_succ, List.setIfInBounds_toArray, List.set_cons_zero, List.set_cons_succ]
    refine wpAnyH_take (i := 14) (v := ?v14) rfl (by kernel_rfl) (by kernel_rfl) (by kernel_rfl) (fun _ _ _ h => h) (Or.inl ⟨by kernel_rfl, ?y14⟩) (by assumption) ?r14
    case y14 => (intro w hSw; (try dsimp only at hSw); go_simp; (try with_reducible rfl))
    try simp only [Act.put, List.getElem_toArray, List.getElem_cons_zero, List.getElem_cons_succ, List.setIfInBounds_toArray, List.set_cons_zero, List.set_cons_succ]
    refine wpAnyH_take (i := 15) (v := ?v15) rfl (by kernel_rfl) (by kernel_rfl) (by kernel_rfl) (fun _ _ _ h => h) (Or.inl ⟨by kernel_rfl, ?y15⟩) (by assumption) ?r15
    case y15 => (intro w hSw; (try dsimp only at hSw); go_simp; (try with_reducible rfl))
    try simp only [Act.put, List.getElem_toArray, List.getElem_cons_zero, List.getElem_cons_succ, List.setIfInBounds_toArray, List.set_cons_zero, List.set_cons_succ]
    refine wpAnyH_take (i := 16) (v := ?v16) rfl (by kernel_rfl) (by kernel_rfl) (by kernel_rfl) (fun _ _ _ h => h) (Or.inl ⟨by kernel_rfl, ?y16⟩) (by assumption) ?r16
    case y16 => (intro w hSw; (try dsimp only at hSw); go_simp; (try with_reducible rfl))
    try simp only [Act.put, List.getElem_toArray, List.getElem_cons_zero, List.getElem_cons_succ, List.setIfInBounds_toArray, List.set_cons_zero, List.set_cons_succ]
    refine wpAnyH_take (i := 17) (v := ?v17) rfl (by kernel_rfl) (by kernel_rfl) (by kernel_rfl) (fun _ _ _ h => h) (Or.inl ⟨by kernel_rfl, ?y17⟩) (by assumption) ?r17
    case y17 => (intro w hSw; (try dsimp only at hSw); go_simp; (try with_reducible rfl))
    try simp only [Act.put, List.getElem_toArray, List.getElem_cons_zero, List.getElem_cons_succ, List.setIfInBounds_toArray, List.set_cons_zero, List.set_cons_succ]
    refine wpAnyH_take (i := 18) (v := ?v18) rfl (by kernel_rfl) (by kernel_rfl) (by kernel_rfl) (fun _ _ _ h => h) (Or.inl ⟨by kernel_rfl, ?y18⟩) (by assumption) ?r18
    case y18 => (intro w hSw; (try dsimp only at hSw); go_simp; (try with_reducible rfl))
    try simp only [Act.put, List.getElem_toArray, List.getElem_cons_zero, List.getElem_cons_succ, List.setIfInBounds_toArray, List.set_cons_zero, List.set_cons_succ]
    refine wpAnyH_ready (rs := [19]) (by kernel_rfl) (by simp) ?_
    refine AllReadyH.cons rfl (fun K hK => ?_) AllReadyH.nil
    have hf1 := hfz 1
    go_simp
    clear hf1
    refine hK.out _ _ (HS1.out.2.1 _) (fun hHeld => ?_)
    clear hK K
    refine wpAnyH_take (i := 20) (v := ?v20) rfl (by kernel_rfl) (by kernel_rfl) (by kernel_rfl) (fun _ _ _ h => h) (Or.inl ⟨by kernel_rfl, ?y20⟩) (by assumption) ?r20
    case y20 => (intro w hSw; (try dsimp only at hSw); go_simp; (try with_reducible rfl))
    try simp only [Act.put, List.getElem_toArray, List.getElem_cons_zero, List.getElem_cons_succ, List.setIfInBounds_toArray, List.set_cons_zero, List.set_cons_succ]
    refine wpAnyH_take (i := 21) (v := ?v21) rfl (by kernel_rfl) (by kernel_rfl) (by kernel_rfl) (fun _ _ _ h => h) (Or.inl ⟨by kernel_rfl, ?y21⟩) (by assumption) ?r21
    case y21 => (intro w hSw; (try dsimp only at hSw); go_simp; (try with_reducible rfl))
    try simp only [Act.put, List.getElem_toArray, List.getElem_cons_zero, List.getElem_cons_succ, List.setIfInBounds_toArray, List.set_cons_zero, List.set_cons_succ]
    refine wpAnyH_ready (rs := [22]) (by kernel_rfl) (by simp) ?_
    refine AllReadyH.cons rfl (fun K hK => ?_) AllReadyH.nil
    have hf2 : (w1.setCell ⟨R, 1, none⟩ (.int .i64 (numB S.l p))).frozen? ⟨R, 2, none⟩ = false := by rw [World.frozen?_setCell]; exact hfz 2
    have hc2 : (w1.setCell ⟨R, 1, none⟩ (.int .i64 (numB S.l p))).cell? ⟨R, 2, none⟩ = some (.int .i64 0) := (A1.out.set1 _).1.cell.2.2.1
    go_simp
    clear hf2 hc2 k1 k2 hfz
    refine hK.out _ _ (HS1.out.2.2 _ _) (fun hHeld => ?_)
    clear hK K
    refine wpAnyH_done (by kernel_rfl) ?_ _
    have HF := Lib.hid (A1.out.set (numB S.l p) (roomV S.l.length p 8))
    generalize (w1.setCell ⟨R, 1, none⟩ (.int .i64 (numB S.l p))).setCell ⟨R, 2, none⟩ (.int .i64 (roomV S.l.length p 8)) = wf at *
    have HM : Hid (Moves R w wf) := Lib.hid ((Moves.of_below HBW.out (Nat.le_refl _)).trans HF.out.2)
    clear hHeld HS1 HS
    go_wp2
    go_ret
    refine ⟨.int .i64 (numA S.l p), rfl, HM.out, ⟨_, _, HF.out.1, ?_⟩, ⟨_, rfl⟩, fun a q hq => ?_⟩
    · unfold numR numB
      by_cases h0 : roomV S.l.length p 8 = 0
      · have := room_is0 h0
        rw [if_pos h0, if_pos h0, h0]
        exact .inl ⟨rfl, rfl, by omega, by omega⟩
      · rw [if_neg h0]
        exact .inr ⟨rfl, h0⟩
    · rw [(numR_in hq).2.2.2.1]
  · have hne : (e == 0) = false := by simpa using he
    clear ha
    go_enter Tryd.func72, Tryd.ntmps72
    go_wp2
    go_ret
    exact ⟨_, rfl, Moves.refl _ _, ⟨p, e, HA.out, .inr ⟨rfl, he⟩⟩, ⟨_, rfl⟩, fun a q h => by cases h⟩

set_option maxHeartbeats 800000 in
theorem readBytes (R : Nat) (S : Sc) (σ : Rd Unit) (b1 b2 : Nat) (w : World) (h1 : One w b1 55 (.pointer (some ⟨R, 0, none⟩))) (h2 : One w b2 85 (.func (.func 53) #[] #[])) (h : PlS w R 57 S σ) :
    Calls Tryd.prog 74 #[.pointer (some ⟨b1, 0, none⟩), .pointer (some ⟨b2, 0, none⟩)] w (Got R 57 S w (σ.bind fun _ p => bytesR S.l p) (fun w' s v => Byt s ∧ RowL w' w'.heap.size s.length (cellsOf s) v) (fun w' v => ∃ s, RowL w' w'.heap.size s.length (cellsOf s) v)) := by
  obtain ⟨p, e, ha, hs⟩ := h
  have hn1 := h1.ne ha (by decide)
  have hn2 := h2.ne ha (by decide)
  have d1 := h1.cell
  have d2 := h2.cell
  obtain ⟨c0, c1, c2, c3⟩ := ha.cell
  have HA := Lib.hid ha
  have hlt := ha.lt
  have hbd := lt_of_some h1
  have hbe := lt_of_some h2
  have H1 := Lib.hid h1
  have H2 := Lib.hid h2
  clear h1 h2
  rcases hs with ⟨rfl, rfl, p0, pl⟩ | ⟨rfl, he⟩
  · rw [Rd.bind_ok]
    have had : At w.drew R 57 S p 0 := ha.low ((Below.refl (R + 1) w).drew) (Nat.lt_succ_self R)
    have hmx : p ≤ 9223372036854775807 := by have := S.hc; have := S.hcm; unfold maxLen at this; omega
    have K0 : Hid (Calls Tryd.prog 53 #[.slice S.A S.l.length S.c, .int .i64 p] w.drew fun e w' => ∃ v, e = .returned (.tuple #[v, .int .i64 (byT S.l p), .int .i64 (bytesE S.l p)]) ∧ Below w.heap.size w.drew w' ∧ w'.ownsRow w.heap.size 5 1 v (byL S.l p).length (cellsOf (byL S.l p))) := Lib.hid ((bytesB_ S.A S.l S.c p w.drew S.hc S.hcm (by omega) hmx (had.2.more (Nat.le_of_lt hlt)) S.hby).mono fun e w' ⟨v, h1, h2, h3⟩ => ⟨v, h1, h3, h2⟩)
    have HS : Hid (See R b1 b2 53 S w.drew) := Lib.hid ⟨d1, d2, c0⟩
    unfold See at HS
    have hcp : w.drew.cell? ⟨R, 1, none⟩ = some (.int .i64 p) := c1
    clear ha had c3 c1
    go_enter Tryd.func74, Tryd.ntmps74
    go_wp2_with fail
    clear d1 d2 c0 c2
    refine wp_region_held_drew (S := fun w' => w'.cell? ⟨b1, 0, none⟩ = some (.pointer (some ⟨R, 0, none⟩)) ∧ w'.cell? ⟨b2, 0, none⟩ = some (.func (.func 53) #[] #[]) ∧ w'.cell? ⟨R, 0, none⟩ = some (.slice S.A S.l.length S.c)) (by kernel_rfl) HS.out (fun hHeld => ?_)
    refine wpAnyH_take (i := 0) (v := ?v0) rfl (by kernel_rfl) (by kernel_rfl) (by kernel_rfl) (fun _ _ _ h => h) (Or.inl ⟨by kernel_rfl, ?y0⟩) (by assumption) ?r0
    case y0 => (intro w hSw; (try dsimp only at hSw); go_simp; (try with_reducible rfl))
    try simp only [Act.put, List.getElem_toArray, List.getElem_cons_zero, List.getElem_cons_succ, List.setIfInBounds_toArray, List.set_cons_zero, List.set_cons_succ]
    refine wpAnyH_take (i := 1) (v := ?v1) rfl (by kernel_rfl) (by kernel_rfl) (by kernel_rfl) (fun _ _ _ h => h) (Or.inl ⟨by kernel_rfl, ?y1⟩) (by assumption) ?r1
    case y1 => (intro w hSw; (try dsimp only at hSw); go_simp; (try with_reducible rfl))
    try simp only [Act.put, List.getElem_toArray, List.getElem_cons_zero, List.getElem_cons_succ, List.setIfInBounds_toArray, List.set_cons_zero, List.set_cons_succ]
    refine wpAnyH_take (i := 2) (v := ?v2) rfl (by kernel_rfl) (by kernel_rfl) (by kernel_rfl) (fun _ _ _ h => h) (Or.inl ⟨by kernel_rfl, ?y2⟩) (by assumption) ?r2
    case y2 => (intro w hSw; (try dsimp only at hSw); go_simp; (try with_reducible rfl))
    try simp only [Act.put, List.getElem_toArray, List.getElem_cons_zero, List.getElem_cons_succ, List.setIfInBounds_toArray, List.set_cons_zero, List.set_cons_succ]
    refine wpAnyH_take (i := 3) (v := ?v3) rfl (by kernel_rfl) (by kernel_rfl) (by kernel_rfl) (fun _ _ _ h => h) (Or.inl ⟨by kernel_rfl, ?y3⟩) (by assumption) ?r3
    case y3 => (intro w hSw; (try dsimp only at hSw); go_simp; (try with_reducible rfl))
    try simp only [Act.put, List.getElem_toArray, List.getElem_cons_zero, List.getElem_cons_succ, List.setIfInBounds_toArray, List.set_cons_zero, List.set_cons_succ]
    refine wpAnyH_take (i := 4) (v := ?v4) rfl (by kernel_rfl) (by kernel_rfl) (by kernel_rfl) (fun _ _ _ h => h) (Or.inl ⟨by kernel_rfl, ?y4⟩) (by assumption) ?r4
    case y4 => (intro w hSw; (try dsimp only at hSw); go_simp; (try with_reducible rfl))
    try simp only [Act.put, List.getElem_toArray, List.getElem_cons_zero, List.getElem_cons_succ, List.setIfInBounds_toArray, List.set_cons_zero, List.set_cons_succ]
    refine wpAnyH_take (i := 5) (v := ?v5) rfl (by kernel_rfl) (by kernel_rfl) (by kernel_rfl) (fun _ _ _ h => h) (Or.inl ⟨by kernel_rfl, ?y5⟩) (by assumption) ?r5
    case y5 => (intro w hSw; (try dsimp only at hSw); go_simp; (try with_reducible rfl))
    try simp only [Act.put, List.getElem_toArray, List.getElem_cons_zero, List.getElem_cons_succ, List.setIfInBounds_toArray, List.set_cons_zero, List.set_cons_succ]
    refine wpAnyH_take (i := 6) (v := ?v6) rfl (by kernel_rfl) (by kernel_rfl) (by kernel_rfl) (fun _ _ _ h => h) (Or.inl ⟨by kernel_rfl, ?y6⟩) (by assumption) ?r6
    case y6 => (intro w hSw; (try dsimp only at hSw); go_simp; (try with_reducible rfl))
    try simp only [Act.put, List.getElem_toArray, List.getElem_cons_zero, List.getElem_cons_succ, List.setIfInBounds_toArray, List.set_cons_zero, List.set_cons_succ]
    refine wpAnyH_take (i := 7) (v := ?v7) rfl (by kernel_rfl) (by kernel_rfl) (by kernel_rfl) (fun _ _ _ h => h) (Or.inl ⟨by kernel_rfl, ?y7⟩) (by assumption) ?r7
    case y7 => (intro w hSw; (try dsimp only at hSw); go_simp; (try with_reducible rfl))
    try simp only [Act.put, List.getElem_toArray, List.getElem_cons_zero, List.getElem_cons_succ, List.setIfInBounds_toArray, List.set_cons_zero, List.set_cons_succ]
    refine wpAnyH_take (i := 8) (v := ?v8) rfl (by kernel_rfl) (by kernel_rfl) (by kernel_rfl) (fun _ _ _ h => h) (Or.inl ⟨by kernel_rfl, ?y8⟩) (by assumption) ?r8
    case y8 => (intro w hSw; (try dsimp only at hSw); go_simp; (try with_reducible rfl))
    try simp only [Act.put, List.getElem_toArray, List.getElem_cons_zero, List.getElem_cons_succ, List.setIfInBounds_toArray, List.set_cons_zero, List.set_cons_succ]
    refine wpAnyH_take (i := 9) (v := ?v9) rfl (by kernel_rfl) (by kernel_rfl) (by kernel_rfl) (fun _ _ _ h => h) (Or.inl ⟨by kernel_rfl, ?y9⟩) (by assumption) ?r9
    case y9 => (intro w hSw; (try dsimp only at hSw); go_simp; (try with_reducible rfl))
    try simp only [Act.put, List.getElem_toArray, List.getElem_cons_zero, List.getElem_cons_succ, List.setIfInBounds_toArray, List.set_cons_zero, List.set_cons_succ]
    refine wpAnyH_ready (rs := [10]) (by kernel_rfl) (by simp) ?_
    refine AllReadyH.cons rfl (fun K hK => ?_) AllReadyH.nil
    go_simp
    clear hcp
    refine hK.out _ _ HS.out (fun hHeld => ?_)
    clear hK K
    refine wpAnyH_ready (rs := [11]) (by kernel_rfl) (by simp) ?_
    refine AllReadyH.cons rfl (fun K hK => ?_) AllReadyH.nil
    go_simp
    refine K0.out.mono ?_
    clear K0
    rintro e w1 ⟨v, rfl, hb1, hv⟩
    have hbw : Below w.heap.size w w1 := ((Below.refl _ _).drew).trans hb1
    have A1 := Lib.hid (HA.out.low hbw hlt)
    have O1 := Lib.hid (show One w1 b1 55 _ from by show w1.heap[b1]? = _; rw [hbw.block b1 hbd]; exact H1.out)
    have O2 := Lib.hid (show One w1 b2 85 _ from by show w1.heap[b2]? = _; rw [hbw.block b2 hbe]; exact H2.out)
    have HS1 := Lib.hid (see_all A1.out O1.out O2.out hn1 hn2)
    have hfz := A1.out.cell.2.2.2
    obtain ⟨_, k1, k2, _⟩ := A1.out.cell
    have hv := Lib.hid hv
    have HBW := Lib.hid hbw
    unfold See at HS1
    clear hb1 hbw hHeld
    refine hK.out _ _ HS1.out.1 (fun hHeld => ?_)
    clear hK K
    refine wpAnyH_take (i := 12) (v := ?v12) rfl (by kernel_rfl) (by kernel_rfl) (by kernel_rfl) (fun _ _ _ h => h) (Or.inl ⟨by kernel_rfl, ?y12⟩) (by assumption) ?r12
    case y12 => (intro w hSw; (try dsimp only at hSw); go_simp; (try with_reducible rfl))
    try simp only [Act.put, List.getElem_toArray, List.getElem_cons_zero, List.getElem_cons_succ, List.setIfInBounds_toArray, List.set_cons_zero, List.set_cons_succ]
    refine wpAnyH_take (i := 13) (v := ?v13) rfl (by kernel_rfl) (by kernel_rfl) (by kernel_rfl) (fun _ _ _ h => h) (Or.inl ⟨by kernel_rfl, ?y13⟩) (by assumption) ?r13
    case y13 => (intro w hSw; (try dsimp only at hSw); go_simp; (try with_reducible rfl))
    try simp only [Act.put, List.getElem_toArray, List.getElem_cons_zero, List.getElem_cons_succ, List.setIfInBounds_toArray, List.set_cons_zero, List.set_cons_succ]
    refine wpAnyH_take (i := 14) (v := ?v14) rfl (by kernel_rfl) (by kernel_rfl) (by kernel_rfl) (fun _ _ _ h => h) (Or.inl ⟨by kernel_rfl, ?y14⟩) (by assumption) ?r14
    case y14 => (intro w hSw; (try dsimp only at hSw); go_simp; (try with_reducible rfl))
    try simp only [Act.put, List.getElem_toArray, List.getElem_cons_zero, List.getElem_cons_succ, List.setIfInBounds_toArray, List.set_cons_zero, List.set_cons_succ]
    refine wpAnyH_take (i := 15) (v := ?v15) rfl (by kernel_rfl) (by kernel_rfl) (by kernel_rfl) (fun _ _ _ h => h) (Or.inl ⟨by kernel_rfl, ?y15⟩) (by assumption) ?r15
    case y15 => (intro w hSw; (try dsimp only at hSw); go_simp; (try with_reducible rfl))
    try simp only [Act.put, List.getElem_toArray, List.getElem_cons_zero, List.getElem_cons_succ, List.setIfInBounds_toArray, List.set_cons_zero, List.set_cons_succ]
    refine wpAnyH_take (i := 16) (v := ?v16) rfl (by kernel_rfl) (by kernel_rfl) (by kernel_rfl) (fun _ _ _ h => h) (Or.inl ⟨by kernel_rfl, ?y16⟩) (by assumption) ?r16
    case y16 => (intro w hSw; (try dsimp only at hSw); go_simp; (try with_reducible rfl))
    try simp only [Act.put, List.getElem_toArray, List.getElem_cons_zero, List.getElem_cons_succ, List.setIfInBounds_toArray, List.set_cons_zero, List.set_cons_succ]
    refine wpAnyH_take (i := 17) (v := ?v17) rfl (by kernel_rfl) (by kernel_rfl) (by kernel_rfl) (fun _ _ _ h => h) (Or.inl ⟨by kernel_rfl, ?y17⟩) (by assumption) ?r17
    case y17 => (intro w hSw; (try dsimp only at hSw); go_simp; (try with_reducible rfl))
    try simp only [Act.put, List.getElem_toArray, List.getElem_cons_zero, List.getElem_cons_succ, List.setIfInBounds_toArray, List.set_cons_zero, List.set_cons_succ]
    refine wpAnyH_take (i := 18) (v := ?v18) rfl (by kernel_rfl) (by kernel_rfl) (by kernel_rfl) (fun _ _ _ h => h) (Or.inl ⟨by kernel_rfl, ?y18⟩) (by assumption) ?r18
    case y18 => (intro w hSw; (try dsimp only at hSw); go_simp; (try with_reducible rfl))
    try simp only [Act.put, List.getElem_toArray, List.getElem_cons_zero, List.getElem_cons_succ, List.setIfInBounds_toArray, List.set_cons_zero, List.set_cons_succ]
    refine wpAnyH_ready (rs := [19]) (by kernel_rfl) (by simp) ?_
    refine AllReadyH.cons rfl (fun K hK => ?_) AllReadyH.nil
    have hf1 := hfz 1
    go_simp
    clear hf1
    refine hK.out _ _ (HS1.out.2.1 _) (fun hHeld => ?_)
    clear hK K
    refine wpAnyH_take (i := 20) (v := ?v20) rfl (by kernel_rfl) (by kernel_rfl) (by kernel_rfl) (fun _ _ _ h => h) (Or.inl ⟨by kernel_rfl, ?y20⟩) (by assumption) ?r20
    case y20 => (intro w hSw; (try dsimp only at hSw); go_simp; (try with_reducible rfl))
    try simp only [Act.put, List.getElem_toArray, List.getElem_cons_zero, List.getElem_cons_succ, List.setIfInBounds_toArray, List.set_cons_zero, List.set_cons_succ]
    refine wpAnyH_take (i := 21) (v := ?v21) rfl (by kernel_rfl) (by kernel_rfl) (by kernel_rfl) (fun _ _ _ h => h) (Or.inl ⟨by kernel_rfl, ?y21⟩) (by assumption) ?r21
    case y21 => (intro w hSw; (try dsimp only at hSw); go_simp; (try with_reducible rfl))
    try simp only [Act.put, List.getElem_toArray, List.getElem_cons_zero, List.getElem_cons_succ, List.setIfInBounds_toArray, List.set_cons_zero, List.set_cons_succ]
    refine wpAnyH_ready (rs := [22]) (by kernel_rfl) (by simp) ?_
    refine AllReadyH.cons rfl (fun K hK => ?_) AllReadyH.nil
    have hf2 : (w1.setCell ⟨R, 1, none⟩ (.int .i64 (byT S.l p))).frozen? ⟨R, 2, none⟩ = false := by rw [World.frozen?_setCell]; exact hfz 2
    have hc2 : (w1.setCell ⟨R, 1, none⟩ (.int .i64 (byT S.l p))).cell? ⟨R, 2, none⟩ = some (.int .i64 0) := (A1.out.set1 _).1.cell.2.2.1
    go_simp
    clear hf2 hc2 k1 k2 hfz
    refine hK.out _ _ (HS1.out.2.2 _ _) (fun hHeld => ?_)
    clear hK K
    refine wpAnyH_done (by kernel_rfl) ?_ _
    have HF := Lib.hid (A1.out.set (byT S.l p) (bytesE S.l p))
    generalize (w1.setCell ⟨R, 1, none⟩ (.int .i64 (byT S.l p))).setCell ⟨R, 2, none⟩ (.int .i64 (bytesE S.l p)) = wf at *
    have HM : Hid (Moves R w wf) := Lib.hid ((Moves.of_below HBW.out (Nat.le_refl _)).trans HF.out.2)
    clear hHeld HS1 HS
    go_wp2
    go_ret
    have hro := RowT.lies ((RowT.own hv.out).kept (KeptT.moves HF.out.2 A1.out.1 (by decide)))
    obtain ⟨A, c, rfl, g1, g2, g3⟩ := hro
    refine ⟨_, rfl, HM.out, ⟨_, _, HF.out.1, ?_⟩, ⟨_, A, c, rfl, g1, g2, g3⟩, fun a q hq => ?_⟩
    · unfold bytesR byT
      by_cases h0 : bytesE S.l p = 0
      · have := bytesE_0 h0
        rw [if_pos h0, if_pos h0, h0]
        exact .inl ⟨rfl, rfl, by unfold bytesB; omega, by unfold bytesB; omega⟩
      · rw [if_neg h0]
        exact .inr ⟨rfl, h0⟩
    · obtain ⟨_, _, _, q4, q5, _⟩ := bytesR_in hq
      have hl : byL S.l p = a := by unfold byL; rw [if_pos q5, q4]
      rw [hl] at g1 g3 ⊢
      exact ⟨by rw [q4]; exact S.hby.sub fun x hx => List.mem_of_mem_drop (List.mem_of_mem_take hx), A, c, rfl, g1, g2, g3⟩
  · have hne : (e == 0) = false := by simpa using he
    clear ha
    go_enter Tryd.func74, Tryd.ntmps74
    go_wp2
    go_ret
    exact ⟨_, rfl, Moves.refl _ _, ⟨p, e, HA.out, .inr ⟨rfl, he⟩⟩, ⟨[], RowL.nothing _ _⟩, fun a q h => by cases h⟩

set_option maxHeartbeats 800000 in
theorem readRow (R : Nat) (S : Sc) (σ : Rd Unit) (b1 b2 : Nat) (w : World) (h1 : One w b1 55 (.pointer (some ⟨R, 0, none⟩))) (h2 : One w b2 63 (.func (.func 33) #[] #[])) (h : PlS w R 57 S σ) :
    Calls Tryd.prog 62 #[.pointer (some ⟨b1, 0, none⟩), .pointer (some ⟨b2, 0, none⟩)] w (Got R 57 S w (σ.bind fun _ p => rowR S.l p) (fun w' s v => GridT w' s v) (fun _ v => ∃ A n c, v = .slice A n c)) := by
  obtain ⟨p, e, ha, hs⟩ := h
  have hn1 := h1.ne ha (by decide)
  have hn2 := h2.ne ha (by decide)
  have d1 := h1.cell
  have d2 := h2.cell
  obtain ⟨c0, c1, c2, c3⟩ := ha.cell
  have HA := Lib.hid ha
  have hlt := ha.lt
  have hbd := lt_of_some h1
  have hbe := lt_of_some h2
  have H1 := Lib.hid h1
  have H2 := Lib.hid h2
  clear h1 h2
  rcases hs with ⟨rfl, rfl, p0, pl⟩ | ⟨rfl, he⟩
  · rw [Rd.bind_ok]
    have had : At w.drew R 57 S p 0 := ha.low ((Below.refl (R + 1) w).drew) (Nat.lt_succ_self R)
    have hmx : p ≤ 9223372036854775807 := by have := S.hc; have := S.hcm; unfold maxLen at this; omega
    have K0 : Hid (Calls Tryd.prog 33 #[.slice S.A S.l.length S.c, .int .i64 p] w.drew fun e w' => ∃ v, e = .returned (.tuple #[v, .int .i64 (roT S.l p), .int .i64 (rowE S.l p)]) ∧ Below w.heap.size w.drew w' ∧ GridO w' w.heap.size v (roL S.l p)) := Lib.hid ((rowB_ S.A S.l S.c p w.drew S.hc S.hcm (by omega) hmx (had.2.more (Nat.le_of_lt hlt)) S.hby).mono fun e w' ⟨v, h1, h2, h3⟩ => ⟨v, h1, h3, h2⟩)
    have HS : Hid (See R b1 b2 33 S w.drew) := Lib.hid ⟨d1, d2, c0⟩
    unfold See at HS
    have hcp : w.drew.cell? ⟨R, 1, none⟩ = some (.int .i64 p) := c1
    clear ha had c3 c1
    go_enter Tryd.func62, Tryd.ntmps62
    go_wp2_with fail
    clear d1 d2 c0 c2
    refine wp_region_held_drew (S := fun w' => w'.cell? ⟨b1, 0, none⟩ = some (.pointer (some ⟨R, 0, none⟩)) ∧ w'.cell? ⟨b2, 0, none⟩ = some (.func (.func 33) #[] #[]) ∧ w'.cell? ⟨R, 0, none⟩ = some (.slice S.A S.l.length S.c)) (by kernel_rfl) HS.out (fun hHeld => ?_)
    refine wpAnyH_take (i := 0) (v := ?v0) rfl (by kernel_rfl) (by kernel_rfl) (by kernel_rfl) (fun _ _ _ h => h) (Or.inl ⟨by kernel_rfl, ?y0⟩) (by assumption) ?r0
    case y0 => (intro w hSw; (try dsimp only at hSw); go_simp; (try with_reducible rfl))
    try simp only [Act.put, List.getElem_toArray, List.getElem_cons_zero, List.getElem_cons_succ, List.setIfInBounds_toArray, List.set_cons_zero, List.set_cons_succ]
    refine wpAnyH_take (i := 1) (v := ?v1) rfl (by kernel_rfl) (by kernel_rfl) (by kernel_rfl) (fun _ _ _ h => h) (Or.inl ⟨by kernel_rfl, ?y1⟩) (by assumption) ?r1
    case y1 => (intro w hSw; (try dsimp only at hSw); go_simp; (try with_reducible rfl))
    try simp only [Act.put, List.getElem_toArray, List.getElem_cons_zero, List.getElem_cons_succ, List.setIfInBounds_toArray, List.set_cons_zero, List.set_cons_succ]
    refine wpAnyH_take (i := 2) (v := ?v2) rfl (by kernel_rfl) (by kernel_rfl) (by kernel_rfl) (fun _ _ _ h => h) (Or.inl ⟨by kernel_rfl, ?y2⟩) (by assumption) ?r2
    case y2 => (intro w hSw; (try dsimp only at hSw); go_simp; (try with_reducible rfl))
    try simp only [Act.put, List.getElem_toArray, List.getElem_cons_zero, List.getElem_cons_succ, List.setIfInBounds_toArray, List.set_cons_zero, List.set_cons_succ]
    refine wpAnyH_take (i := 3) (v := ?v3) rfl (by kernel_rfl) (by kernel_rfl) (by kernel_rfl) (fun _ _ _ h => h) (Or.inl ⟨by kernel_rfl, ?y3⟩) (by assumption) ?r3
    case y3 => (intro w hSw; (try dsimp only at hSw); go_simp; (try with_reducible rfl))
    try simp only [Act.put, List.getElem_toArray, List.getElem_cons_zero, List.getElem_cons_succ, List.setIfInBounds_toArray, List.set_cons_zero, List.set_cons_succ]
    refine wpAnyH_take (i := 4) (v := ?v4) rfl (by kernel_rfl) (by kernel_rfl) (by kernel_rfl) (fun _ _ _ h => h) (Or.inl ⟨by kernel_rfl, ?y4⟩) (by assumption) ?r4
    case y4 => (intro w hSw; (try dsimp only at hSw); go_simp; (try with_reducible rfl))
    try simp only [Act.put, List.getElem_toArray, List.getElem_cons_zero, List.getElem_cons_succ, List.setIfInBounds_toArray, List.set_cons_zero, List.set_cons_succ]
    refine wpAnyH_take (i := 5) (v := ?v5) rfl (by kernel_rfl) (by kernel_rfl) (by kernel_rfl) (fun _ _ _ h => h) (Or.inl ⟨by kernel_rfl, ?y5⟩) (by assumption) ?r5
    case y5 => (intro w hSw; (try dsimp only at hSw); go_simp; (try with_reducible rfl))
    try simp only [Act.put, List.getElem_toArray, List.getElem_cons_zero, List.getElem_cons_succ, List.setIfInBounds_toArray, List.set_cons_zero, List.set_cons_succ]
    refine wpAnyH_take (i := 6) (v := ?v6) rfl (by kernel_rfl) (by kernel_rfl) (by kernel_rfl) (fun _ _ _ h => h) (Or.inl ⟨by kernel_rfl, ?y6⟩) (by assumption) ?r6
    case y6 => (intro w hSw; (try dsimp only at hSw); go_simp; (try with_reducible rfl))
    try simp only [Act.put, List.getElem_toArray, List.getElem_cons_zero, List.getElem_cons_succ, List.setIfInBounds_toArray, List.set_cons_zero, List.set_cons_succ]
    refine wpAnyH_take (i := 7) (v := ?v7) rfl (by kernel_rfl) (by kernel_rfl) (by kernel_rfl) (fun _ _ _ h => h) (Or.inl ⟨by kernel_rfl, ?y7⟩) (by assumption) ?r7
    case y7 => (intro w hSw; (try dsimp only at hSw); go_simp; (try with_reducible rfl))
    try simp only [Act.put, List.getElem_toArray, List.getElem_cons_zero, List.getElem_cons_succ, List.setIfInBounds_toArray, List.set_cons_zero, List.set_cons_succ]
    refine wpAnyH_take (i := 8) (v := ?v8) rfl (by kernel_rfl) (by kernel_rfl) (by kernel_rfl) (fun _ _ _ h => h) (Or.inl ⟨by kernel_rfl, ?y8⟩) (by assumption) ?r8
    case y8 => (intro w hSw; (try dsimp only at hSw); go_simp; (try with_reducible rfl))
    try simp only [Act.put, List.getElem_toArray, List.getElem_cons_zero, List.getElem_cons_succ, List.setIfInBounds_toArray, List.set_cons_zero, List.set_cons_succ]
    refine wpAnyH_take (i := 9) (v := ?v9) rfl (by kernel_rfl) (by kernel_rfl) (by kernel_rfl) (fun _ _ _ h => h) (Or.inl ⟨by kernel_rfl, ?y9⟩) (by assumption) ?r9
    case y9 => (intro w hSw; (try dsimp only at hSw); go_simp; (try with_reducible rfl))
    try simp only [Act.put, List.getElem_toArray, List.getElem_cons_zero, List.getElem_cons_succ, List.setIfInBounds_toArray, List.set_cons_zero, List.set_cons_succ]
    refine wpAnyH_ready (rs := [10]) (by kernel_rfl) (by simp) ?_
    refine AllReadyH.cons rfl (fun K hK => ?_) AllReadyH.nil
    go_simp
    clear hcp
    refine hK.out _ _ HS.out (fun hHeld => ?_)
    clear hK K
    refine wpAnyH_ready (rs := [11]) (by kernel_rfl) (by simp) ?_
    refine AllReadyH.cons rfl (fun K hK => ?_) AllReadyH.nil
    go_simp
    refine K0.out.mono ?_
    clear K0
    rintro e w1 ⟨v, rfl, hb1, hv⟩
    have hbw : Below w.heap.size w w1 := ((Below.refl _ _).drew).trans hb1
    have A1 := Lib.hid (HA.out.low hbw hlt)
    have O1 := Lib.hid (show One w1 b1 55 _ from by show w1.heap[b1]? = _; rw [hbw.block b1 hbd]; exact H1.out)
    have O2 := Lib.hid (show One w1 b2 63 _ from by show w1.heap[b2]? = _; rw [hbw.block b2 hbe]; exact H2.out)
    have HS1 := Lib.hid (see_all A1.out O1.out O2.out hn1 hn2)
    have hfz := A1.out.cell.2.2.2
    obtain ⟨_, k1, k2, _⟩ := A1.out.cell
    have hv := Lib.hid hv
    have HBW := Lib.hid hbw
    unfold See at HS1
    clear hb1 hbw hHeld
    refine hK.out _ _ HS1.out.1 (fun hHeld => ?_)
    clear hK K
    refine wpAnyH_take (i := 12) (v := ?v12) rfl (by kernel_rfl) (by kernel_rfl) (by kernel_rfl) (fun _ _ _ h => h) (Or.inl ⟨by kernel_rfl, ?y12⟩) (by assumption) ?r12
    case y12 => (intro w hSw; (try dsimp only at hSw); go_simp; (try with_reducible rfl))
    try simp only [Act.put, List.getElem_toArray, List.getElem_cons_zero, List.getElem_cons_succ, List.setIfInBounds_toArray, List.set_cons_zero, List.set_cons_succ]
    refine wpAnyH_take (i := 13) (v := ?v13) rfl (by kernel_rfl) (by kernel_rfl) (by kernel_rfl) (fun _ _ _ h => h) (Or.inl ⟨by kernel_rfl, ?y13⟩) (by assumption) ?r13
    case y13 => (intro w hSw; (try dsimp only at hSw); go_simp; (try with_reducible rfl))
    try simp only [Act.put, List.getElem_toArray, List.getElem_cons_zero, List.getElem_cons_succ, List.setIfInBounds_toArray, List.set_cons_zero, List.set_cons_succ]
    refine wpAnyH_take (i := 14) (v := ?v14) rfl (by kernel_rfl) (by kernel_rfl) (by kernel_rfl) (fun _ _ _ h => h) (Or.inl ⟨by kernel_rfl, ?y14⟩) (by assumption) ?r14
    case y14 => (intro w hSw; (try dsimp only at hSw); go_simp; (try with_reducible rfl))
    try simp only [Act.put, List.getElem_toArray, List.getElem_cons_zero, List.getElem_cons_succ, List.setIfInBounds_toArray, List.set_cons_zero, List.set_cons_succ]
    refine wpAnyH_take (i := 15) (v := ?v15) rfl (by kernel_rfl) (by kernel_rfl) (by kernel_rfl) (fun _ _ _ h => h) (Or.inl ⟨by kernel_rfl, ?y15⟩) (by assumption) ?r15
    case y15 => (intro w hSw; (try dsimp only at hSw); go_simp; (try with_reducible rfl))
    try simp only [Act.put, List.getElem_toArray, List.getElem_cons_zero, List.getElem_cons_succ, List.setIfInBounds_toArray, List.set_cons_zero, List.set_cons_succ]
    refine wpAnyH_take (i := 16) (v := ?v16) rfl (by kernel_rfl) (by kernel_rfl) (by kernel_rfl) (fun _ _ _ h => h) (Or.inl ⟨by kernel_rfl, ?y16⟩) (by assumption) ?r16
    case y16 => (intro w hSw; (try dsimp only at hSw); go_simp; (try with_reducible rfl))
    try simp only [Act.put, List.getElem_toArray, List.getElem_cons_zero, List.getElem_cons_succ, List.setIfInBounds_toArray, List.set_cons_zero, List.set_cons_succ]
    refine wpAnyH_take (i := 17) (v := ?v17) rfl (by kernel_rfl) (by kernel_rfl) (by kernel_rfl) (fun _ _ _ h => h) (Or.inl ⟨by kernel_rfl, ?y17⟩) (by assumption) ?r17
    case y17 => (intro w hSw; (try dsimp only at hSw); go_simp; (try with_reducible rfl))
    try simp only [Act.put, List.getElem_toArray, List.getElem_cons_zero, List.getElem_cons_succ, List.setIfInBounds_toArray, List.set_cons_zero, List.set_cons_succ]
    refine wpAnyH_take (i := 18) (v := ?v18) rfl (by kernel_rfl) (by kernel_rfl) (by kernel_rfl) (fun _ _ _ h => h) (Or.inl ⟨by kernel_rfl, ?y18⟩) (by assumption) ?r18
    case y18 => (intro w hSw; (try dsimp only at hSw); go_simp; (try with_reducible rfl))
    try simp only [Act.put, List.getElem_toArray, List.getElem_cons_zero, List.getElem_cons_succ, List.setIfInBounds_toArray, List.set_cons_zero, List.set_cons_succ]
    refine wpAnyH_ready (rs := [19]) (by kernel_rfl) (by simp) ?_
    refine AllReadyH.cons rfl (fun K hK => ?_) AllReadyH.nil
    have hf1 := hfz 1
    go_simp
    clear hf1
    refine hK.out _ _ (HS1.out.2.1 _) (fun hHeld => ?_)
    clear hK K
    refine wpAnyH_take (i := 20) (v := ?v20) rfl (by kernel_rfl) (by kernel_rfl) (by kernel_rfl) (fun _ _ _ h => h) (Or.inl ⟨by kernel_rfl, ?y20⟩) (by assumption) ?r20
    case y20 => (intro w hSw; (try dsimp only at hSw); go_simp; (try with_reducible rfl))
    try simp only [Act.put, List.getElem_toArray, List.getElem_cons_zero, List.getElem_cons_succ, List.setIfInBounds_toArray, List.set_cons_zero, List.set_cons_succ]
    refine wpAnyH_take (i := 21) (v := ?v21) rfl (by kernel_rfl) (by kernel_rfl) (by kernel_rfl) (fun _ _ _ h => h) (Or.inl ⟨by kernel_rfl, ?y21⟩) (by assumption) ?r21
    case y21 => (intro w hSw; (try dsimp only at hSw); go_simp; (try with_reducible rfl))
    try simp only [Act.put, List.getElem_toArray, List.getElem_cons_zero, List.getElem_cons_succ, List.setIfInBounds_toArray, List.set_cons_zero, List.set_cons_succ]
    refine wpAnyH_ready (rs := [22]) (by kernel_rfl) (by simp) ?_
    refine AllReadyH.cons rfl (fun K hK => ?_) AllReadyH.nil
    have hf2 : (w1.setCell ⟨R, 1, none⟩ (.int .i64 (roT S.l p))).frozen? ⟨R, 2, none⟩ = false := by rw [World.frozen?_setCell]; exact hfz 2
    have hc2 : (w1.setCell ⟨R, 1, none⟩ (.int .i64 (roT S.l p))).cell? ⟨R, 2, none⟩ = some (.int .i64 0) := (A1.out.set1 _).1.cell.2.2.1
    go_simp
    clear hf2 hc2 k1 k2 hfz
    refine hK.out _ _ (HS1.out.2.2 _ _) (fun hHeld => ?_)
    clear hK K
    refine wpAnyH_done (by kernel_rfl) ?_ _
    have HF := Lib.hid (A1.out.set (roT S.l p) (rowE S.l p))
    generalize (w1.setCell ⟨R, 1, none⟩ (.int .i64 (roT S.l p))).setCell ⟨R, 2, none⟩ (.int .i64 (rowE S.l p)) = wf at *
    have HM : Hid (Moves R w wf) := Lib.hid ((Moves.of_below HBW.out (Nat.le_refl _)).trans HF.out.2)
    clear hHeld HS1 HS
    go_wp2
    go_ret
    have hgo : GridO wf w.heap.size v (roL S.l p) := by
      obtain ⟨vs, y1, y2, y3⟩ := hv.out
      exact ⟨vs, y1, own_moves y2 HF.out.2 hlt, fun j x l hx hl => own_moves (y3 j x l hx hl) HF.out.2 hlt⟩
    have HGT := Lib.hid (GridT.own hgo)
    obtain ⟨A, c, rfl, g1, g2, g3⟩ := hgo.grid
    refine ⟨_, rfl, HM.out, ⟨_, _, HF.out.1, ?_⟩, ⟨_, _, _, rfl⟩, fun a q hq => ?_⟩
    · unfold rowR roT
      by_cases h0 : rowE S.l p = 0
      · have h1 := rowE_0 h0
        have h2 := cntE_0 h1.1
        have h3 := offs_in (l := S.l) (q := p + 4) (by omega) (by omega) h1.2
        rw [if_pos h0, if_pos h0, h0]
        exact .inl ⟨rfl, rfl, h3.1, h3.2⟩
      · rw [if_neg h0]
        exact .inr ⟨rfl, h0⟩
    · have hl : roL S.l p = a := by
        unfold rowR at hq
        unfold roL
        split at hq
        · rename_i h0
          injection hq with e1 e2
          rw [if_pos h0, e1]
        · cases hq
      have := HGT.out
      rw [hl] at this ⊢
      exact this
  · have hne : (e == 0) = false := by simpa using he
    clear ha
    go_enter Tryd.func62, Tryd.ntmps62
    go_wp2
    go_ret
    exact ⟨_, rfl, Moves.refl _ _, ⟨p, e, HA.out, .inr ⟨rfl, he⟩⟩, ⟨_, _, _, rfl⟩, fun a q h => by cases h⟩

end Go.Proofs.YtecjkmemihmkcaaDoor
