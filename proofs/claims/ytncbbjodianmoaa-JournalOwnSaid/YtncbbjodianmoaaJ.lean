/- What reading a length and a byte string gives ('readCount', 'bytes.Clone', 'Bytes'). Conditions: none beyond what a slice is. -/
import Derived.Test.YtncbbjodianmoaaH
namespace Go.Proofs.Ytncbbjodianmoaa
open Go.RowKit

/-- the length that stands at p -/
def cnt (l : List Int) (p : Int) : Nat := (val ((l.drop p.toNat).take 4)).toNat
theorem cnt_val {l : List Int} (h : Byt l) (p : Int) : (cnt l p : Int) = val ((l.drop p.toNat).take 4) := by
  have := val_bound ((l.drop p.toNat).take 4) (h.sub fun x hx => List.mem_of_mem_drop (List.mem_of_mem_take hx))
  unfold cnt
  omega
theorem cnt_lt {l : List Int} (h : Byt l) (p : Int) : cnt l p < 4294967296 := by
  have h1 := val_bound ((l.drop p.toNat).take 4) (h.sub fun x hx => List.mem_of_mem_drop (List.mem_of_mem_take hx))
  have h2 := cnt_val h p
  have h3 : ((l.drop p.toNat).take 4).length ≤ 4 := List.length_take_le _ _
  have h4 : val ((l.drop p.toNat).take 4) < 4294967296 := by
    refine Int.lt_of_lt_of_le h1.2 ?_
    rcases (show ((l.drop p.toNat).take 4).length = 0 ∨ ((l.drop p.toNat).take 4).length = 1 ∨ ((l.drop p.toNat).take 4).length = 2 ∨ ((l.drop p.toNat).take 4).length = 3 ∨ ((l.drop p.toNat).take 4).length = 4 by omega) with h | h | h | h | h <;> rw [h] <;> decide
  omega
/-- the error of the length that stands at p -/
def cntE (l : List Int) (p : Int) (most : Int) : Int := if roomV l.length p 4 = 0 then (if most < (cnt l p : Int) then 2 else 0) else roomV l.length p 4

/-- what a call returns that makes a byte string anew -/
def NewBytes (w : World) (l : List Int) (e : Ending) (w' : World) : Prop :=
  ∃ A' c', e = .returned (.slice A' l.length c') ∧ l.length ≤ c' ∧ c' ≤ maxLen ∧ Lies w' w'.heap.size A' c' (cellsOf l) ∧ Below w.heap.size w w'

theorem own_empty (w : World) : (w.alloc (.cells #[] 5)).ownsRow w.heap.size 5 1 (.slice (some ⟨w.heap.size, 0, none⟩) 0 0) 0 [] :=
  World.ownsRow_made w #[] 0 (Nat.le_refl _) (Nat.zero_le _) rfl

/-- a slice against nil -/
theorem eq_nil (w : World) (A : Option Addr) (n c : Nat) : (binOp .eql 30 (.slice A n c) (.slice none 0 0)).run Try.prog w = .ok (.bool A.isNone) w := by
  simp only [binOp]
  simp [run_equal_slice_nil w 30 5 A n c Try.underlying30]

set_option maxHeartbeats 400000 in
theorem clone (A : Option Addr) (l : List Int) (c : Nat) (w : World) (hl : Lies w w.heap.size A c (cellsOf l)) (hlen : l.length ≤ 140737488355328) :
    Calls Try.prog 44 #[.slice A l.length c] w (NewBytes w l) := by
  obtain ⟨i0, hi, hz0, hz1, hz2⟩ := info_parts info5
  cases A with
  | none =>
    obtain ⟨h1, rfl⟩ := hl.none_nil
    have h2 : l = [] := by simpa using h1
    subst h2
    clear h1 hl hlen
    have hnil := eq_nil w none 0 0
    go_enter Try.func44, Try.ntmps44
    go_wp2
    go_ret
    exact ⟨none, 0, rfl, Nat.le_refl _, Nat.zero_le _, Lies.nothing _ _, Below.refl _ _⟩
  | some ad =>
    have ho := own_empty w
    have hb := (Below.refl w.heap.size w).alloc (Nat.le_refl _) (.cells #[] 5)
    have hl1 := hl.below hb
    clear hl
    have hnil := eq_nil w (some ad) l.length c
    go_enter Try.func44, Try.ntmps44
    go_wp2_with (at_builtin; refine wpList_append_lies rfl (.tmp 5) (.tmp 6) 30 rfl w.heap.size 5 i0 (.int .u8 0) 1 Try.underlying30 hi hz0 hz1 hz2 rfl _ 0 [] rfl ho w.heap.size (some ad) l.length c (cellsOf l) rfl (by simp) hl1 (bytes_oneCell l) (by unfold maxLen; omega) (by omega) (by simp) ?_; intro v2 w2 ho2 hg2)
    obtain ⟨A2, c2, rfl, h1, h2, h3⟩ := own_lies ho2
    go_wp2
    go_ret
    simp only [Nat.zero_add, List.nil_append] at h1 h3 ⊢
    exact ⟨A2, c2, rfl, h1, h2, h3, hb.grown hg2 (by simp) (fun k hk => (ho.lt k hk).1)⟩

/-- the error of a byte string that stands at p -/
def bytesE (l : List Int) (p : Int) : Int := if cntE l p 65536 = 0 then roomV l.length (p + 4) (cnt l p) else cntE l p 65536
/-- the byte string that stands at p -/
def bytesA (l : List Int) (p : Int) : List Int := (l.drop (p.toNat + 4)).take (cnt l p)
/-- the offset behind it -/
def bytesB (l : List Int) (p : Int) : Int := p + 4 + cnt l p

theorem cntE_0 {l : List Int} {p : Int} {most : Int} (h : cntE l p most = 0) : 0 ≤ p ∧ p + 4 ≤ l.length ∧ (cnt l p : Int) ≤ most := by
  unfold cntE at h
  split at h
  · rename_i hr
    split at h
    · cases h
    · have := room_is0 hr
      omega
  · rename_i hr
    exact absurd h hr
theorem bytesE_0 {l : List Int} {p : Int} (h : bytesE l p = 0) : cntE l p 65536 = 0 ∧ roomV l.length (p + 4) (cnt l p) = 0 ∧ 0 ≤ p ∧ p + 4 + cnt l p ≤ l.length ∧ cnt l p ≤ 65536 := by
  unfold bytesE at h
  split at h
  · rename_i hc
    have h1 := cntE_0 hc
    have h2 := room_is0 h
    exact ⟨hc, h, h1.1, by omega, by omega⟩
  · rename_i hc
    exact absurd h hc
theorem bytesA_length {l : List Int} {p : Int} (h : bytesE l p = 0) : (bytesA l p).length = cnt l p := by
  have := bytesE_0 h
  unfold bytesA
  rw [List.length_take, List.length_drop]
  omega

/-- a part of a slice -/
theorem Lies.mid {w : World} {B : Nat} {A : Option Addr} {c : Nat} {l : List Int} (h : Lies w B A c (cellsOf l)) {p n : Nat} (hc : l.length ≤ c) :
    Lies w B (if c = p then A else A.map (fun x => x.add p)) (c - p) (cellsOf ((l.drop p).take n)) := by
  refine ⟨(h.cut hc).1, fun j u hu => (h.cut hc).2 j u ?_⟩
  have hj : j < n := by
    have := (List.getElem?_eq_some_iff.1 hu).1
    simp at this
    omega
  simpa [cellsOf, List.getElem?_take, hj] using hu

/-- what reading a byte string returns -/
def BytesOk (w : World) (l : List Int) (p : Int) (e : Ending) (w' : World) : Prop :=
  ∃ A' c', e = .returned (.tuple #[.slice A' (cnt l p) c', .int .i64 (bytesB l p), .int .i64 0]) ∧ cnt l p ≤ c' ∧ c' ≤ maxLen ∧ Lies w' w'.heap.size A' c' (cellsOf (bytesA l p)) ∧ Below w.heap.size w w'

end Go.Proofs.Ytncbbjodianmoaa
