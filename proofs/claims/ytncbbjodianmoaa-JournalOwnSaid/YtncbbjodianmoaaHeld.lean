/- Moves for a region whose order Go leaves open: a stronger condition serves for a weaker one; a slice's string stays in every later world. Conditions: those in each theorem. -/
import Derived.Test.YtncbbjodianmoaaH
import Derived.Deep.RegionHeld3
namespace Go.Proofs.Ytncbbjodianmoaa
open Go.RowKit

/-- a stronger condition serves for a weaker one -/
theorem held_mono {P : Program} {md : Region.Mode} {ops : Array Oper} {Q : Exit → Act → World → Prop} {S S' : World → Prop} (hS : ∀ w, S w → S' w) :
    ∀ (fuel : Nat) (listed : Array Bool) (a : Act) (w : World), wpAnyH P md ops Q S fuel listed a w → wpAnyH P md ops Q S' fuel listed a w
  | 0, _, _, _, h => h
  | fuel + 1, _, _, _, h => ⟨h.1, fun i hi => wpOp_mono (fun a' w' h' => ⟨hS w' h'.1, held_mono hS fuel _ a' w' h'.2⟩) (h.2 i hi)⟩

/-- a slice whose string is s in every later world -/
def Str (w : World) (A : Option Addr) (n c : Nat) (s : ByteArray) : Prop := ∀ w'', Below w.heap.size w w'' → (convert 30 9 (.slice A n c)).run Try.prog w'' = .ok (.string s) w''
theorem str_of {w : World} {A : Option Addr} {n c : Nat} {l : List Int} (hn : l.length = n) (h : Lies w w.heap.size A c (cellsOf l)) : Str w A n c (strOfNums l) :=
  fun w'' hb => run_string_lies w'' 30 9 5 Try.underlying30 Try.underlying5 Try.underlying9 w.heap.size A n c l hn (h.below hb)

/-- the same of a slice that lies lower -/
theorem str_low {w w' : World} {B : Nat} {A : Option Addr} {n c : Nat} {l : List Int} (hn : l.length = n) (h : Lies w B A c (cellsOf l)) (hb : Below w.heap.size w w') (hB : B ≤ w.heap.size) : Str w' A n c (strOfNums l) :=
  str_of hn (((h.more hB).below hb).more hb.size)

end Go.Proofs.Ytncbbjodianmoaa
