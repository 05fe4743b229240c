/- Plain facts on numbers, lists and bytes; nothing of the program. Conditions: those in each theorem. -/
import Derived.WalkKit
namespace Go.Proofs.YtecjkmemihmkcaaDoor
set_option maxRecDepth 100000
open Go.RowKit

/-- the cells of a list of bytes -/
abbrev cellsOf (l : List Int) : List Value := l.map (Value.int .u8)

/-- the first k bytes of n, the most significant first, of top + 1 bytes -/
def be (n : Int) (top k : Nat) : List Int := (List.range k).map fun j => n / 2 ^ (8 * (top - j)) % 256

theorem be_zero (n : Int) (top : Nat) : be n top 0 = [] := rfl
theorem be_succ (n : Int) (top k : Nat) : be n top (k + 1) = be n top k ++ [n / 2 ^ (8 * (top - k)) % 256] := by
  simp [be, List.range_succ]
theorem be_length (n : Int) (top k : Nat) : (be n top k).length = k := by simp [be]


/-- how many bytes the first k byte strings take, each with its length ahead -/
def szTo (ls : List (List Int)) (k : Nat) : Nat := ((ls.take k).map fun l => 4 + l.length).sum
/-- the bytes of the first k byte strings -/
def bsTo (ls : List (List Int)) (k : Nat) : List Int := (ls.take k).flatMap fun l => be l.length 3 4 ++ l

theorem take_next {α : Type} {ls : List α} {k : Nat} {l : α} (h : ls[k]? = some l) : ls.take (k + 1) = ls.take k ++ [l] := by
  rw [List.take_add_one, h]; rfl
theorem szTo_zero (ls : List (List Int)) : szTo ls 0 = 0 := by simp [szTo]
theorem szTo_next {ls : List (List Int)} {k : Nat} {l : List Int} (h : ls[k]? = some l) : szTo ls (k + 1) = szTo ls k + (4 + l.length) := by
  simp [szTo, take_next h]
theorem bsTo_zero (ls : List (List Int)) : bsTo ls 0 = [] := by simp [bsTo]
theorem bsTo_next {ls : List (List Int)} {k : Nat} {l : List Int} (h : ls[k]? = some l) : bsTo ls (k + 1) = bsTo ls k ++ (be l.length 3 4 ++ l) := by
  simp [bsTo, take_next h]
theorem szTo_le {ls : List (List Int)} (h : ∀ l ∈ ls, l.length ≤ 65536) : ∀ k, k ≤ ls.length → szTo ls k ≤ k * 65540 := by
  intro k
  induction k with
  | zero => intro _; simp [szTo]
  | succ k ih =>
    intro hk
    have hl : ls[k]? = some ls[k] := List.getElem?_eq_getElem (by omega)
    rw [szTo_next hl]
    have := ih (by omega)
    have := h ls[k] (List.getElem_mem _)
    omega
theorem bsTo_length (ls : List (List Int)) : ∀ k, k ≤ ls.length → (bsTo ls k).length = szTo ls k := by
  intro k
  induction k with
  | zero => intro _; simp [szTo, bsTo]
  | succ k ih =>
    intro hk
    have hl : ls[k]? = some ls[k] := List.getElem?_eq_getElem (by omega)
    rw [szTo_next hl, bsTo_next hl, List.length_append, ih (by omega), List.length_append, be_length]
/-- the bytes of a row -/
def rowBytes (ls : List (List Int)) : List Int := be ls.length 3 4 ++ bsTo ls ls.length
theorem rowBytes_length (ls : List (List Int)) : (rowBytes ls).length = 4 + szTo ls ls.length := by
  rw [rowBytes, List.length_append, be_length, bsTo_length ls _ (Nat.le_refl _)]


/-- the first byte string that is too long -/
def FirstBad (ls : List (List Int)) : Prop := ∃ (k : Nat) (l : List Int), ls[k]? = some l ∧ 65536 < l.length ∧ ∀ (j : Nat) (l' : List Int), j < k → ls[j]? = some l' → l'.length ≤ 65536
theorem bad_or_good : ∀ (ls : List (List Int)), FirstBad ls ∨ ∀ l ∈ ls, l.length ≤ 65536
  | [] => .inr (by intro l hl; cases hl)
  | x :: r => by
    by_cases hx : x.length ≤ 65536
    · rcases bad_or_good r with ⟨k, l, h1, h2, h3⟩ | h
      · refine .inl ⟨k + 1, l, by simpa using h1, h2, fun j l' hj hl' => ?_⟩
        cases j with
        | zero => simp at hl'; subst hl'; exact hx
        | succ j => exact h3 j l' (by omega) (by simpa using hl')
      · refine .inr fun l hl => ?_
        rcases List.mem_cons.1 hl with rfl | hl
        · exact hx
        · exact h l hl
    · exact .inl ⟨0, x, rfl, by omega, fun j _ hj => by omega⟩

end Go.Proofs.YtecjkmemihmkcaaDoor
