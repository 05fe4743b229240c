/- A slice's string stays in every later world. Conditions: those in each theorem. -/
import Derived.Test.YtjilifodmmhnkaaDoorE
namespace Go.Proofs.YtjilifodmmhnkaaDoor
open Go.RowKit

/-- a slice whose string is s in every later world -/
def Str (w : World) (A : Option Addr) (n c : Nat) (s : ByteArray) : Prop := ∀ w'', Below w.heap.size w w'' → (convert 22 9 (.slice A n c)).run Tryd.prog w'' = .ok (.string s) w''
theorem str_of {w : World} {A : Option Addr} {n c : Nat} {l : List Int} (hn : l.length = n) (h : Lies w w.heap.size A c (cellsOf l)) : Str w A n c (strOfNums l) :=
  fun w'' hb => run_string_lies w'' 22 9 5 Tryd.underlying22 Tryd.underlying5 Tryd.underlying9 w.heap.size A n c l hn (h.below hb)
theorem own_str {w : World} {base : Nat} {v : Value} {n : Nat} {l : List Int} (hn : l.length = n) (h : w.ownsRow base 5 1 v n (cellsOf l)) : (convert 22 9 v).run Tryd.prog w = .ok (.string (strOfNums l)) w := by
  obtain ⟨A, c, rfl, _, _, h3⟩ := own_lies h
  exact run_string_lies w 22 9 5 Tryd.underlying22 Tryd.underlying5 Tryd.underlying9 _ A n c l hn h3
theorem lies_str {w : World} {B : Nat} {A : Option Addr} {n c : Nat} {l : List Int} (hn : l.length = n) (h : Lies w B A c (cellsOf l)) : (convert 22 9 (.slice A n c)).run Tryd.prog w = .ok (.string (strOfNums l)) w :=
  run_string_lies w 22 9 5 Tryd.underlying22 Tryd.underlying5 Tryd.underlying9 B A n c l hn h

/-- what sealing returns, with its string in every later world -/
def SealS (w : World) (n : Nat) (s : ByteArray) (e : Ending) (w' : World) : Prop := ∃ A c, e = .returned (.slice A n c) ∧ Str w' A n c s ∧ Below w.heap.size w w'
theorem sealS {w : World} {l m : List Int} {A : Option Addr} {n k c : Nat} (hn : l.length = n) (hc : n ≤ c) (hcm : c ≤ maxLen) (hr : n ≤ 140737488351300) (hl : Lies w w.heap.size A c (cellsOf l)) (hy : Byt l) (ht : Tab w)
    (hm : four (crcI l) ++ l = m) (hk : m.length = k) : Calls Tryd.prog 10 #[.slice A n c] w (SealS w k (strOfNums m)) := by
  subst hm hk
  refine (sealO A l n c w hn hc hcm hr hl hy ht).mono fun e w' ⟨v, he, ho, hb⟩ => ?_
  obtain ⟨A', c', rfl, h1, h2, h3⟩ := own_lies ho
  exact ⟨A', c', he, str_of rfl h3, hb⟩
end Go.Proofs.YtjilifodmmhnkaaDoor
