/- Plain facts on numbers of 64 bits: what wrapped round is found by signs, or by a division. Conditions: those in each theorem. -/
import Derived.Test.YtehihpfhcphdoaaMem
import Derived.IntWalk
namespace Go.Proofs.Ytehihpfhcphdoaa
open Go.RowKit
def fits (x : Int) : Prop := -9223372036854775808 ≤ x ∧ x ≤ 9223372036854775807
instance (x : Int) : Decidable (fits x) := by unfold fits; infer_instance
theorem wrapI (n : Int) : IntKind.wrap .i64 n = wrap64 n := by
  exact IntWalk.i64_left n
theorem neg_nat (v : BitVec 64) : IntKind.wrap .i64 v.toNat = v.toInt := by
  have := v.isLt
  rw [wrapI, BitVec.toInt_eq_toNat_cond]
  unfold wrap64
  split <;> omega
theorem msb_of {x : Int} (h : fits x) : (BitVec.ofInt 64 x).msb = decide (x < 0) := by
  rw [BitVec.msb_eq_toInt, BitVec.toInt_ofInt]
  obtain ⟨h1, h2⟩ := h
  have : x.bmod (2 ^ 64) = x := by
    rw [Int.bmod_def]; split <;> omega
  rw [this]
theorem bits_fits (op : BinOp) (x y : Int) : fits (bits op .i64 x y) := by
  unfold bits
  simp only []
  rw [wrapI]
  unfold fits wrap64
  omega
theorem bits_xor (x y : Int) (hx : fits x) (hy : fits y) : decide (bits .xor .i64 x y < 0) = (decide (x < 0) ^^ decide (y < 0)) := by
  have : bits .xor .i64 x y = (BitVec.ofInt 64 x ^^^ BitVec.ofInt 64 y).toInt := neg_nat _
  rw [this, ← BitVec.msb_eq_toInt, BitVec.msb_xor, msb_of hx, msb_of hy]
theorem bits_and (x y : Int) (hx : fits x) (hy : fits y) : decide (bits .and .i64 x y < 0) = (decide (x < 0) && decide (y < 0)) := by
  have : bits .and .i64 x y = (BitVec.ofInt 64 x &&& BitVec.ofInt 64 y).toInt := neg_nat _
  rw [this, ← BitVec.msb_eq_toInt, BitVec.msb_and, msb_of hx, msb_of hy]
theorem wrap_fits (x : Int) : fits (wrap64 x) := by unfold fits wrap64; omega
theorem wrap_id {x : Int} (h : fits x) : wrap64 x = x := by unfold fits at h; unfold wrap64; omega
theorem wrap_ways (x : Int) (h : -18446744073709551616 ≤ x ∧ x < 18446744073709551616) : fits (wrap64 x) ∧ (wrap64 x = x ∨ wrap64 x = x - 18446744073709551616 ∨ wrap64 x = x + 18446744073709551616) := by unfold fits wrap64; omega
theorem sum_bits (a b : Int) (ha : fits a) (hb : fits b) : decide (bits .and .i64 (bits .xor .i64 a (wrap64 (a + b))) (bits .xor .i64 b (wrap64 (a + b))) < 0) = !decide (fits (a + b)) := by
  rw [bits_and _ _ (bits_fits _ _ _) (bits_fits _ _ _), bits_xor _ _ ha (wrap_fits _), bits_xor _ _ hb (wrap_fits _)]
  have h := wrap_ways (a + b) (by unfold fits at *; omega)
  generalize wrap64 (a + b) = n at h
  obtain ⟨h5, h6⟩ := h
  by_cases h1 : a < 0 <;> by_cases h2 : b < 0 <;> by_cases h3 : n < 0 <;> by_cases h4 : fits (a + b) <;> simp only [h1, h2, h3, h4, decide_true, decide_false, Bool.xor_self, Bool.xor_true, Bool.xor_false, Bool.and_self, Bool.and_true, Bool.and_false, Bool.not_true, Bool.not_false] <;> exfalso <;> unfold fits at * <;> omega
theorem diff_bits (a b : Int) (ha : fits a) (hb : fits b) : decide (bits .and .i64 (bits .xor .i64 a b) (bits .xor .i64 a (wrap64 (a - b))) < 0) = !decide (fits (a - b)) := by
  rw [bits_and _ _ (bits_fits _ _ _) (bits_fits _ _ _), bits_xor _ _ ha hb, bits_xor _ _ ha (wrap_fits _)]
  have h := wrap_ways (a - b) (by unfold fits at *; omega)
  generalize wrap64 (a - b) = n at h
  obtain ⟨h5, h6⟩ := h
  by_cases h1 : a < 0 <;> by_cases h2 : b < 0 <;> by_cases h3 : n < 0 <;> by_cases h4 : fits (a - b) <;> simp only [h1, h2, h3, h4, decide_true, decide_false, Bool.xor_self, Bool.xor_true, Bool.xor_false, Bool.and_self, Bool.and_true, Bool.and_false, Bool.not_true, Bool.not_false] <;> exfalso <;> unfold fits at * <;> omega
theorem tdiv_fits {n a : Int} (hn : fits n) (h0 : a ≠ 0) (h1 : a ≠ -1) : fits (n.tdiv a) := by
  have h := Int.natAbs_tdiv n a
  rw [show n.natAbs.div a.natAbs = n.natAbs / a.natAbs from rfl] at h
  by_cases ha : a = 1
  · subst ha; rw [Int.tdiv_one]; exact hn
  · have h2 : 2 ≤ a.natAbs := by omega
    have h3 : n.natAbs / a.natAbs ≤ n.natAbs / 2 := Nat.div_le_div_left h2 (by omega)
    unfold fits at *
    omega
/-- a product that wrapped round is found by a division -/
theorem prod_found (a b : Int) (ha : fits a) (hb : fits b) (h0 : a ≠ 0) (h1 : ¬(a = -1 ∧ b = -9223372036854775808)) : (wrap64 ((wrap64 (a * b)).tdiv a) = b) ↔ fits (a * b) := by
  constructor
  · intro h
    by_cases hm : a = -1
    · subst hm
      unfold fits at *
      omega
    · rw [wrap_id (tdiv_fits (wrap_fits _) h0 hm)] at h
      have e := Int.mul_tdiv_add_tmod (wrap64 (a * b)) a
      have r := Int.natAbs_tmod (wrap64 (a * b)) a
      have r2 := Nat.mod_lt (wrap64 (a * b)).natAbs (show 0 < a.natAbs by omega)
      rw [h] at e
      have f := wrap_fits (a * b)
      have g : ∃ k : Int, wrap64 (a * b) = a * b - 18446744073709551616 * k := ⟨(a * b + 9223372036854775808) / 18446744073709551616, by unfold wrap64; omega⟩
      obtain ⟨k, g⟩ := g
      generalize (wrap64 (a * b)).tmod a = m at *
      generalize wrap64 (a * b) = n at *
      generalize a * b = p at *
      unfold fits at *
      omega
  · intro h
    rw [wrap_id h, Int.mul_tdiv_cancel_left b h0, wrap_id hb]
end Go.Proofs.Ytehihpfhcphdoaa
