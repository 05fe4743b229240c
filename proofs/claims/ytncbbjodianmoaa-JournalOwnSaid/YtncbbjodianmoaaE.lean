/- What reading an integer of eight or of four bytes gives ('readInt', 'Num'), at every offset. Conditions: none beyond what a slice is. -/
import Derived.Test.YtncbbjodianmoaaD
import Derived.Test.YtncbbjodianmoaaNum
namespace Go.Proofs.Ytncbbjodianmoaa
open Go.RowKit

theorem lies_at {w : World} {B : Nat} {A : Option Addr} {c : Nat} {l : List Int} (h : Lies w B A c (cellsOf l)) {j : Nat} {b : Int} (hb : l[j]? = some b) :
    ∃ ad, A = some ad ∧ ad.block < B ∧ w.cell? (ad.add j) = some (.int .u8 b) := h.2 j _ (by simp [hb])
theorem addr_add (a : Addr) (i j : Nat) : (a.add i).add j = a.add (i + j) := by
  unfold Addr.add
  by_cases hi : i = 0 <;> by_cases hj : j = 0 <;> simp [hi, hj, Nat.add_assoc]
theorem room_is0 {n : Nat} {p size : Int} (h : roomV n p size = 0) : 0 ≤ p ∧ p + size ≤ n ∧ p ≤ n := by
  unfold roomV at h
  split at h
  · omega
  · split at h <;> omega
theorem room_0 {n : Nat} {p size : Int} (h : 0 ≤ p) (h1 : p ≤ n) (h2 : p + size ≤ n) : roomV n p size = 0 := by
  unfold roomV
  rw [if_neg (by omega), if_neg (by omega)]
theorem room_vals (n : Nat) (p size : Int) : roomV n p size = 0 ∨ roomV n p size = 1 ∨ roomV n p size = 11 := by
  unfold roomV
  split
  · simp
  · split <;> simp
theorem wrap64_0 : wrap64 0 = 0 := by unfold wrap64; decide

/-- what an integer of eight bytes at p reads as -/
def numA (l : List Int) (p : Int) : Int := if roomV l.length p 8 = 0 then wrap64 (val ((l.drop p.toNat).take 8)) else 0
def numB (l : List Int) (p : Int) : Int := if roomV l.length p 8 = 0 then p + 8 else 0

/-- what a length of four bytes at p reads as -/
def cntA (l : List Int) (p : Int) : Int := if roomV l.length p 4 = 0 then val ((l.drop p.toNat).take 4) else 0
def cntB (l : List Int) (p : Int) : Int := if roomV l.length p 4 = 0 then p + 4 else 0

end Go.Proofs.Ytncbbjodianmoaa
