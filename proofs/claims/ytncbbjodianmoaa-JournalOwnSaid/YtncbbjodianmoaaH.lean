/- What reading a boolean gives, and what the document's own answers give of numbers and booleans. Conditions: none beyond what a slice is. -/
import Derived.Test.YtncbbjodianmoaaF
namespace Go.Proofs.Ytncbbjodianmoaa
open Go.RowKit

/-- what a boolean at p reads as -/
def boolE (l : List Int) (p : Int) : Int := if roomV l.length p 1 = 0 then (if 1 < l.getD p.toNat 0 then 12 else 0) else roomV l.length p 1
def boolA (l : List Int) (p : Int) : Bool := if roomV l.length p 1 = 0 then l.getD p.toNat 0 == 1 else false
def boolB (l : List Int) (p : Int) : Int := if boolE l p = 0 then p + 1 else 0

theorem getD_of {l : List Int} {p : Nat} {b : Int} (h : l[p]? = some b) : l.getD p 0 = b := by simp [List.getD, h]

theorem Lies.cut {w : World} {B : Nat} {A : Option Addr} {c : Nat} {l : List Int} (h : Lies w B A c (cellsOf l)) {p : Nat} (hc : l.length ≤ c) :
    Lies w B (if c = p then A else A.map (fun x => x.add p)) (c - p) (cellsOf (l.drop p)) := by
  refine ⟨fun e => ?_, fun j u hu => ?_⟩
  · split at e
    · omega
    · have : A = none := by simpa using e
      have := h.1 this
      omega
  · have hu' : (cellsOf l)[p + j]? = some u := by simpa [cellsOf, List.getElem?_drop] using hu
    have hj : p + j < l.length := by
      have := (List.getElem?_eq_some_iff.1 hu').1
      simpa using this
    obtain ⟨ad, rfl, hB, hcell⟩ := h.2 (p + j) u hu'
    rw [if_neg (by omega)]
    exact ⟨ad.add p, rfl, by rw [addr_block]; exact hB, by rw [addr_add]; exact hcell⟩

/-- what 'there' returns inside -/
def ThereOk (w : World) (B c : Nat) (l : List Int) (p : Nat) (e : Ending) (w' : World) : Prop :=
  ∃ A', e = .returned (.tuple #[.slice A' (l.length - p) (c - p), .int .i64 0]) ∧ Lies w B A' (c - p) (cellsOf (l.drop p)) ∧ w = w'

end Go.Proofs.Ytncbbjodianmoaa
