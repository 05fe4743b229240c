/- The walk through a function as it lies in memory; the stack's top taken. Conditions: those in each theorem. -/
import Derived.Test.YtilmidjkjgeoeaaDoorVC
import Derived.Test.YtilmidjkjgeoeaaDoorVE
import Derived.Deep.RegionHeld3
import Derived.Deep.CutBlock
import Derived.Maps.AppendAt
namespace Go.Proofs.YtilmidjkjgeoeaaDoor
open Go.RowKit Go.MapKept
set_option maxRecDepth 100000
set_option linter.unusedVariables false
set_option linter.unusedSimpArgs false
/-- what a place has: come to or not, the stack's number, the words -/
abbrev Pl := Bool × Nat × List Nat
def skC (e : Stk) : List Value := [.int .i64 e.1, .int .i64 e.2.1, .int .i64 e.2.2]
def plC (p : Pl) : List Value := .bool p.1 :: .int .i64 p.2.1 :: wsV p.2.2
def numE : Nat → List Stk → List (Stk × Nat)
  | _, [] => []
  | k, e :: l => (e, k) :: numE (k + 1) l
/-- a walk's things -/
structure Wx where
  E : List Stk
  m : Nat
  C : Value
  Tx : Value
  nm : ByteArray
  P : Value
  r : Int
  sl : Int
  I : Value
  pl : List Pl
  rem : List Nat
def wkO (x : Wx) (L V R : Value) : Obj := .cells #[L, .map (some x.m), x.C, x.Tx, .string x.nm, x.P, .int .i64 x.r, .int .i64 x.sl, x.I, V, R] 61 (0, 0)
/-- the walk at block W, of blocks from B on; its rows at L, V, R -/
structure WkAt (B W : Nat) (x : Wx) (L V R : Value) (w : World) : Prop where
  cell : w.heap[W]? = some (wkO x L V R)
  list : w.ownsRow B 81 3 L x.E.length (x.E.flatMap skC)
  map : MapE w x.m (numE 1 x.E.tail)
  pl : w.ownsRow B 71 10 V x.pl.length (x.pl.flatMap plC)
  rem : w.ownsRow B 2 1 R x.rem.length (x.rem.map fun k => Value.int .i64 (k : Nat))
  hW : B ≤ W
  hm : B ≤ x.m
  h0 : 0 < x.E.length
theorem own_slice {w : World} {B T size n : Nat} {V : Value} {xs : List Value} (h : w.ownsRow B T size V n xs) : ∃ A c, V = .slice A n c ∧ n ≤ c ∧ c ≤ maxLen := by
  rcases h.2 with ⟨rfl, rfl⟩ | ⟨g, cap, cur, rfl, _, _, h1, h2, _⟩
  · exact ⟨none, 0, rfl, Nat.le_refl _, Nat.zero_le _⟩
  · exact ⟨_, cap, rfl, h1, h2⟩
theorem own_pos {w : World} {B T size n : Nat} {V : Value} {xs : List Value} (h : w.ownsRow B T size V n xs) (hn : 0 < n) : ∃ g c cur, V = .slice (some ⟨g, 0, none⟩) n c ∧ n ≤ c ∧ c ≤ maxLen ∧ B ≤ g ∧ w.heap[g]? = some (.cells cur T (0, 0)) ∧ cur.size = c * size ∧ ∀ (j : Nat) (u : Value), xs[j]? = some u → cur[j]? = some u := by
  rcases h.2 with ⟨rfl, rfl⟩ | ⟨g, cap, cur, rfl, h0, h3, h1, h2, h4, h5⟩
  · omega
  · refine ⟨g, cap, cur, rfl, h1, h2, h0, h3, h4, fun j u hu => ?_⟩
    rw [← h5, List.getElem?_take] at hu
    split at hu
    · simpa using hu
    · cases hu
theorem sk_flat {E : List Stk} {n : Nat} {e : Stk} (h : E[n]? = some e) : (E.flatMap skC)[n * 3]? = some (.int .i64 e.1) ∧ (E.flatMap skC)[n * 3 + 1]? = some (.int .i64 e.2.1) ∧ (E.flatMap skC)[n * 3 + 2]? = some (.int .i64 e.2.2) := by
  have key : ∀ (l : List Stk) (n : Nat) (j : Nat), l[n]? = some e → j < 3 → (l.flatMap skC)[n * 3 + j]? = (skC e)[j]? := by
    intro l
    induction l with
    | nil => intro n j h; simp at h
    | cons x l ih =>
      intro n j h hj
      cases n with
      | zero =>
        simp at h
        subst h
        rw [List.flatMap_cons, List.getElem?_append_left (by simp [skC]; omega)]
        simp
      | succ n =>
        rw [List.flatMap_cons, List.getElem?_append_right (by simp [skC]; omega)]
        rw [← ih n j (by simpa using h) hj]
        congr 1
        simp [skC]
        omega
  exact ⟨key E n 0 h (by omega), key E n 1 h (by omega), key E n 2 h (by omega)⟩
theorem cell_at {w : World} {g T : Nat} {cur : Array Value} {j : Nat} {u : Value} (h : w.heap[g]? = some (.cells cur T (0, 0))) (hj : cur[j]? = some u) : w.cell? ⟨g, j, none⟩ = some u := by rw [cell_of_row _ _ _ _ _ _ h]; exact hj
theorem st_cell {w : World} {S n : Nat} {xs : List Nat} (h : w.heap[S]? = some (stO n xs)) : w.cell? ⟨S, 0, none⟩ = some (.int .i64 n) ∧ w.frozen? ⟨S, 0, none⟩ = false := by
  unfold stO stC at h
  refine ⟨?_, ?_⟩ <;> simp [World.cell?, World.frozen?, h]
theorem st_set {w : World} {S n : Nat} {xs : List Nat} (h : w.heap[S]? = some (stO n xs)) (m : Nat) : (w.setCell ⟨S, 0, none⟩ (.int .i64 m)).heap[S]? = some (stO m xs) := by
  unfold stO at h ⊢
  rw [heap_setCell_same w S 0 _ 67 _ h]
  rfl
theorem wk_cells {w : World} {W : Nat} {x : Wx} {L V R : Value} (h : w.heap[W]? = some (wkO x L V R)) :
    w.cell? ⟨W, 0, none⟩ = some L ∧ w.cell? ⟨W, 1, none⟩ = some (.map (some x.m)) ∧ w.cell? ⟨W, 2, none⟩ = some x.C ∧ w.cell? ⟨W, 3, none⟩ = some x.Tx ∧ w.cell? ⟨W, 5, none⟩ = some x.P ∧ w.cell? ⟨W, 6, none⟩ = some (.int .i64 x.r) ∧ w.cell? ⟨W, 7, none⟩ = some (.int .i64 x.sl) ∧ w.cell? ⟨W, 8, none⟩ = some x.I ∧ w.cell? ⟨W, 9, none⟩ = some V ∧ w.cell? ⟨W, 10, none⟩ = some R ∧ w.frozen? ⟨W, 0, none⟩ = false ∧ w.frozen? ⟨W, 9, none⟩ = false ∧ w.frozen? ⟨W, 10, none⟩ = false := by
  unfold wkO at h
  refine ⟨?_, ?_, ?_, ?_, ?_, ?_, ?_, ?_, ?_, ?_, ?_, ?_, ?_⟩ <;> simp [World.cell?, World.frozen?, h]
theorem one_alloc {g : Nat} {w w' : World} (h : One g w w') (o : Obj) : w.grownBy (w'.alloc o).drew (some g) := by
  have k : w.grownBy (w'.alloc o) (some g) := h.grown.trans (World.grownBy_alloc w' o (some g))
  exact ⟨k.os, k.tape, k.output, k.size, k.block⟩
set_option maxHeartbeats 800000 in
theorem popC {B W : Nat} {x : Wx} {L V R : Value} (S n : Nat) (xs : List Nat) (e : Stk) (w : World) (h : WkAt B W x L V R w) (hs : w.heap[S]? = some (stO n xs)) (he : x.E[n]? = some e) :
    Calls Tryd.prog 38 #[.pointer (some ⟨W, 0, none⟩), .pointer (some ⟨S, 0, none⟩)] w fun r w' => r = .returned (.int .i64 e.1) ∧ w'.heap[S]? = some (stO e.2.1 xs) ∧ w.grownBy w' (some S) := by
  have hn := (List.getElem?_eq_some_iff.1 he).1
  obtain ⟨g, c, cur, rfl, h1, h2, h3, h4, h5, h6⟩ := own_pos h.list (by omega)
  obtain ⟨f1, f2, f3⟩ := sk_flat he
  have c1 := cell_at h4 (h6 _ _ f1)
  have c2 := cell_at h4 (h6 _ _ f2)
  have c3 := cell_at h4 (h6 _ _ f3)
  obtain ⟨s1, s2⟩ := st_cell hs
  have w0 := (wk_cells h.cell).1
  have HS := Lib.hid hs
  have l1 : g < w.heap.size := (Array.getElem?_eq_some_iff.1 h4).1
  have l2 : S < w.heap.size := (Array.getElem?_eq_some_iff.1 hs).1
  have l3 : W < w.heap.size := (Array.getElem?_eq_some_iff.1 h.cell).1
  unfold maxLen at h2
  clear h he f1 f2 f3 h3 h4 h5 h6 hs
  go_enter Tryd.func38, Tryd.ntmps38
  go_wp2_with fail
  go_region
  go_wp2
  go_ret
  refine ⟨rfl, ?_, one_alloc (One.set w S 0 _) _⟩
  rw [heap_drew, Below.heap_alloc _ _ _ (by simp [World.setCell]; exact l2)]
  exact st_set HS.out e.2.1
end Go.Proofs.YtilmidjkjgeoeaaDoor
