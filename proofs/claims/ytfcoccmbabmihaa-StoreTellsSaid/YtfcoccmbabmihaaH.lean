/- What reading a boolean gives, and what the document's own answers give of numbers and booleans. Conditions: none beyond what a slice is. -/
import Derived.Test.YtfcoccmbabmihaaF
namespace Go.Proofs.Ytfcoccmbabmihaa
open Go.RowKit

/-- what a boolean at p reads as -/
def boolE (l : List Int) (p : Int) : Int := if roomV l.length p 1 = 0 then (if 1 < l.getD p.toNat 0 then 12 else 0) else roomV l.length p 1
def boolA (l : List Int) (p : Int) : Bool := if roomV l.length p 1 = 0 then l.getD p.toNat 0 == 1 else false
def boolB (l : List Int) (p : Int) : Int := if boolE l p = 0 then p + 1 else 0

theorem getD_of {l : List Int} {p : Nat} {b : Int} (h : l[p]? = some b) : l.getD p 0 = b := by simp [List.getD, h]

theorem Lies.cut {w : World} {B : Nat} {A : Option Addr} {c : Nat} {l : List Int} (h : Lies w B A c (cellsOf l)) {p : Nat} (hc : l.length ≤ c) :
    Lies w B (if c = p then A else A.map (fun x => x.add p)) (c - p) (cellsOf (l.drop p)) := by
  refine ⟨fun e => ?_, fun j u hu => ?_⟩
  · split at e
    · omega
    · have : A = none := by simpa using e
      have := h.1 this
      omega
  · have hu' : (cellsOf l)[p + j]? = some u := by simpa [cellsOf, List.getElem?_drop] using hu
    have hj : p + j < l.length := by
      have := (List.getElem?_eq_some_iff.1 hu').1
      simpa using this
    obtain ⟨ad, rfl, hB, hcell⟩ := h.2 (p + j) u hu'
    rw [if_neg (by omega)]
    exact ⟨ad.add p, rfl, by rw [addr_block]; exact hB, by rw [addr_add]; exact hcell⟩

/-- what 'there' returns inside -/
def ThereOk (w : World) (B c : Nat) (l : List Int) (p : Nat) (e : Ending) (w' : World) : Prop :=
  ∃ A', e = .returned (.tuple #[.slice A' (l.length - p) (c - p), .int .i64 0]) ∧ Lies w B A' (c - p) (cellsOf (l.drop p)) ∧ w = w'

set_option maxHeartbeats 400000 in
theorem there_ok (A : Option Addr) (l : List Int) (c : Nat) (p : Nat) (w : World) (B : Nat) (hc : l.length ≤ c) (hp : p ≤ l.length) (hl : Lies w B A c (cellsOf l)) :
    Calls Try.prog 52 #[.slice A l.length c, .int .i64 p] w (ThereOk w B c l p) := by
  have hcut := hl.cut (p := p) hc
  clear hl
  have hd1 : decide ((p : Int) < 0) = false := by simp
  by_cases hcp : c = p
  · rw [if_pos hcp] at hcut
    have HC := Lib.hid hcut
    subst hcp
    clear hcut
    go_enter Try.func52, Try.ntmps52
    go_wp2
    go_ret2
    exact ⟨A, by simp; omega, HC.out, rfl⟩
  · rw [if_neg hcp] at hcut
    have HC := Lib.hid hcut
    clear hcut
    have hlt : p < c := by omega
    go_enter Try.func52, Try.ntmps52
    go_wp2
    go_ret2
    exact ⟨_, rfl, HC.out, rfl⟩

set_option maxHeartbeats 400000 in
theorem there_bad (A : Option Addr) (n c : Nat) (p : Int) (w : World) (hp : p < 0 ∨ (n : Int) < p) :
    Calls Try.prog 52 #[.slice A n c, .int .i64 p] w fun e w' => e = .returned (.tuple #[.slice none 0 0, .int .i64 1]) ∧ w = w' := by
  by_cases h : p < 0
  · go_enter Try.func52, Try.ntmps52
    go_wp2
    go_ret2
    exact ⟨rfl, rfl⟩
  · have h2 : (n : Int) < p := by omega
    go_enter Try.func52, Try.ntmps52
    go_wp2
    go_ret2
    exact ⟨rfl, rfl⟩

end Go.Proofs.Ytfcoccmbabmihaa
