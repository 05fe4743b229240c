/- What the program's functions that make byte strings and rows return, told as memory of the call's own, found or not. Conditions: none beyond what a slice is. -/
import Derived.Test.YtncbbjodianmoaaL
namespace Go.Proofs.Ytncbbjodianmoaa
open Go.RowKit

theorem own_mono {w : World} {base base' : Nat} {e : TypeId} {size : Nat} {v : Value} {n : Nat} {xs : List Value} (h : w.ownsRow base e size v n xs) (hb : base' ≤ base) : w.ownsRow base' e size v n xs := by
  refine ⟨h.1, ?_⟩
  rcases h.2 with h' | ⟨g, cap, cur, hv, h1, rest⟩
  · exact .inl h'
  · exact .inr ⟨g, cap, cur, hv, by omega, rest⟩
theorem own_eq {w : World} {base : Nat} {e : TypeId} {v : Value} {n m : Nat} {xs ys : List Value} (h : w.ownsRow base e 1 v n xs) (hn : n = m) (hx : xs = ys) : w.ownsRow base e 1 v m ys := by
  subst hn hx
  exact h
/-- rows of bytes and rows of slices are not one -/
theorem own_ne {w : World} {b b' n n' : Nat} {x v : Value} {xs ys : List Value} (h5 : w.ownsRow b 5 1 x n xs) (h22 : w.ownsRow b' 30 1 v n' ys) : x.ownBlock = none ∨ x.ownBlock ≠ v.ownBlock := by
  rcases h5.2 with ⟨rfl, _⟩ | ⟨g, cap, cur, rfl, _, hg, _⟩
  · exact .inl rfl
  · refine .inr fun e => ?_
    rcases h22.2 with ⟨rfl, _⟩ | ⟨g', cap', cur', rfl, _, hg', _⟩
    · cases e
    · have : g = g' := by simpa [Value.ownBlock] using e
      subst this
      rw [hg] at hg'
      injection hg' with hg'
      injection hg' with _ ht
      cases ht

/-- the bytes of a byte string, or none; and the error -/
def pbL (s : List Int) : List Int := if s.length ≤ 65536 then be s.length 3 4 ++ s else []
def pbE (s : List Int) : Int := if s.length ≤ 65536 then 0 else 2
/-- what a call returns that writes a byte string or a row -/
def PutBoth (w : World) (l : List Int) (E : Int) (e : Ending) (w' : World) : Prop :=
  ∃ v, e = .returned (.tuple #[v, .int .i64 E]) ∧ w'.ownsRow w.heap.size 5 1 v l.length (cellsOf l) ∧ Below w.heap.size w w'

/-- the bytes of a row, or none; and the error -/
def prL (ls : List (List Int)) : List Int := if ls.length ≤ 1024 ∧ ∀ l ∈ ls, l.length ≤ 65536 then rowBytes ls else []
def prE (ls : List (List Int)) : Int := if ls.length ≤ 1024 ∧ ∀ l ∈ ls, l.length ≤ 65536 then 0 else 2

end Go.Proofs.Ytncbbjodianmoaa
