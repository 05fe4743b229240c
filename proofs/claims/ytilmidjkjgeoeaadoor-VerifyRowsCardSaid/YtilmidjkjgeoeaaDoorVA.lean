/- Words of thirty-two types, two bits each: one of them read, written; what two words know alike. Conditions: those in each theorem. -/
import Derived.WalkKit
import Derived.Laws.BitsAllLaws
namespace Go.Proofs.YtilmidjkjgeoeaaDoor
set_option maxRecDepth 100000
set_option linter.unusedVariables false
set_option linter.unusedSimpArgs false
/-- the type at a place of a word -/
def dg (x j : Nat) : Nat := x / 2 ^ (2 * j) % 4
theorem dg_lt (x j : Nat) : dg x j < 4 := Nat.mod_lt _ (by omega)
theorem dg_bits (x j : Nat) : dg x j = (x.testBit (2 * j)).toNat + 2 * (x.testBit (2 * j + 1)).toNat := by
  unfold dg
  rw [Nat.testBit_eq_decide_div_mod_eq, Nat.testBit_eq_decide_div_mod_eq, Nat.pow_succ, ← Nat.div_div_eq_div_mul]
  generalize x / 2 ^ (2 * j) = y
  by_cases h1 : y % 2 = 1 <;> by_cases h2 : y / 2 % 2 = 1 <;> simp [h1, h2] <;> omega
theorem dg_bit0 (x j : Nat) : x.testBit (2 * j) = decide (dg x j % 2 = 1) := by
  rw [dg_bits]
  cases x.testBit (2 * j) <;> cases x.testBit (2 * j + 1) <;> rfl
theorem dg_bit1 (x j : Nat) : x.testBit (2 * j + 1) = decide (dg x j / 2 = 1) := by
  rw [dg_bits]
  cases x.testBit (2 * j) <;> cases x.testBit (2 * j + 1) <;> rfl
theorem dg_ext {x y : Nat} (hx : x < 2 ^ 64) (hy : y < 2 ^ 64) (h : ∀ j, j < 32 → dg x j = dg y j) : x = y := by
  refine Nat.eq_of_testBit_eq fun i => ?_
  by_cases hi : i < 64
  · rcases Nat.mod_two_eq_zero_or_one i with h0 | h0
    · obtain ⟨j, rfl⟩ : ∃ j, i = 2 * j := ⟨i / 2, by omega⟩
      rw [dg_bit0, dg_bit0, h j (by omega)]
    · obtain ⟨j, rfl⟩ : ∃ j, i = 2 * j + 1 := ⟨i / 2, by omega⟩
      rw [dg_bit1, dg_bit1, h j (by omega)]
  · have h2 : 2 ^ 64 ≤ 2 ^ i := Nat.pow_le_pow_right (by omega) (by omega)
    rw [Nat.testBit_lt_two_pow (Nat.lt_of_lt_of_le hx h2), Nat.testBit_lt_two_pow (Nat.lt_of_lt_of_le hy h2)]
theorem tb_not {m i : Nat} (h : m < 2 ^ 64) : (2 ^ 64 - 1 - m).testBit i = (decide (i < 64) && !m.testBit i) := by
  rw [show 2 ^ 64 - 1 - m = 2 ^ 64 - (m + 1) by omega, Nat.testBit_two_pow_sub_succ h]
theorem tb_shl (t s i : Nat) : (t * 2 ^ s).testBit i = (decide (s ≤ i) && t.testBit (i - s)) := by
  rw [Nat.testBit_mul_two_pow]
theorem small_at {t : Nat} (ht : t < 4) {i : Nat} (hi : 2 ≤ i) : t.testBit i = false := by
  have : 2 ^ 2 ≤ 2 ^ i := Nat.pow_le_pow_right (by omega) hi
  exact Nat.testBit_lt_two_pow (by omega)
/-- a word with another type at a place -/
def dgSet (x j t : Nat) : Nat := (x &&& (18446744073709551615 - 3 * 2 ^ (2 * j))) ||| (t * 2 ^ (2 * j))
theorem shl_lt {t j : Nat} (ht : t < 4) (hj : j < 32) : t * 2 ^ (2 * j) < 18446744073709551616 := by
  have h1 : 2 ^ (2 * j) ≤ 2 ^ 62 := Nat.pow_le_pow_right (by omega) (by omega)
  have h2 : t * 2 ^ (2 * j) ≤ 3 * 2 ^ (2 * j) := Nat.mul_le_mul_right _ (by omega)
  omega
theorem dgSet_lt {x j t : Nat} (hx : x < 18446744073709551616) (ht : t < 4) (hj : j < 32) : dgSet x j t < 18446744073709551616 := by
  unfold dgSet
  have h1 := shl_lt ht hj
  have h2 : x &&& (18446744073709551615 - 3 * 2 ^ (2 * j)) < 2 ^ 64 := Nat.lt_of_le_of_lt Nat.and_le_left hx
  exact Nat.or_lt_two_pow (n := 64) h2 h1
theorem dg_set {x j t : Nat} (ht : t < 4) (hj : j < 32) {i : Nat} (hi : i < 32) : dg (dgSet x j t) i = if i = j then t else dg x i := by
  have h3 : 3 * 2 ^ (2 * j) < 2 ^ 64 := shl_lt (by omega) hj
  have key : ∀ b, b < 2 → (dgSet x j t).testBit (2 * i + b) = if i = j then t.testBit b else x.testBit (2 * i + b) := by
    intro b hb
    unfold dgSet
    rw [Nat.testBit_or, Nat.testBit_and, show (18446744073709551615 : Nat) - 3 * 2 ^ (2 * j) = 2 ^ 64 - 1 - 3 * 2 ^ (2 * j) from rfl, tb_not h3, tb_shl, tb_shl]
    have e64 : decide (2 * i + b < 64) = true := by simp; omega
    rw [e64]
    by_cases hij : i = j
    · subst hij
      have e1 : decide (2 * i ≤ 2 * i + b) = true := by simp
      have e2 : (3 : Nat).testBit (2 * i + b - 2 * i) = true := by
        rw [show 2 * i + b - 2 * i = b by omega]
        rcases (show b = 0 ∨ b = 1 by omega) with rfl | rfl <;> rfl
      rw [e1, e2, if_pos rfl, show 2 * i + b - 2 * i = b by omega]
      simp
    · rw [if_neg hij]
      rcases Nat.lt_or_ge i j with hlt | hge
      · have e1 : decide (2 * j ≤ 2 * i + b) = false := by simp; omega
        rw [e1]
        simp
      · rw [small_at (t := 3) (by omega) (show 2 ≤ 2 * i + b - 2 * j by omega), small_at ht (show 2 ≤ 2 * i + b - 2 * j by omega)]
        simp
  rw [dg_bits, key 1 (by omega), show 2 * i = 2 * i + 0 from rfl, key 0 (by omega)]
  by_cases hij : i = j
  · rw [if_pos hij, if_pos hij, if_pos hij]
    have : t = 0 ∨ t = 1 ∨ t = 2 ∨ t = 3 := by omega
    rcases this with rfl | rfl | rfl | rfl <;> rfl
  · rw [if_neg hij, if_neg hij, if_neg hij, dg_bits]
    rfl
/-- where two words differ, one bit for each type -/
def dgD (x y : Nat) : Nat := ((x ^^^ y) ||| ((x ^^^ y) / 2)) &&& 6148914691236517205
/-- what two words know alike -/
def dgC (x y : Nat) : Nat := x &&& (18446744073709551615 - (dgD x y ||| dgD x y * 2))
theorem dgD_le (x y : Nat) : dgD x y ≤ 6148914691236517205 := Nat.and_le_right
theorem low_bit : ∀ i, i < 64 → (6148914691236517205 : Nat).testBit i = decide (i % 2 = 0) := by decide
theorem low_bitF (i : Nat) (h : ¬ i < 64) : (6148914691236517205 : Nat).testBit i = false := by
  have : 2 ^ 64 ≤ 2 ^ i := Nat.pow_le_pow_right (by omega) (by omega)
  exact Nat.testBit_lt_two_pow (by omega)
theorem dgD_bit (x y i : Nat) (hi : i < 64) : (dgD x y).testBit i = (((x.testBit i != y.testBit i) || (x.testBit (i + 1) != y.testBit (i + 1))) && decide (i % 2 = 0)) := by
  unfold dgD
  rw [Nat.testBit_and, Nat.testBit_or, low_bit i hi, Nat.testBit_div_two, Nat.testBit_xor, Nat.testBit_xor]
theorem dgC_lt {x : Nat} (y : Nat) (hx : x < 18446744073709551616) : dgC x y < 18446744073709551616 := Nat.lt_of_le_of_lt Nat.and_le_left hx
theorem dg_common (x y : Nat) {i : Nat} (hi : i < 32) : dg (dgC x y) i = if dg x i = dg y i then dg x i else 0 := by
  have hd := dgD_le x y
  have hm : dgD x y ||| dgD x y * 2 < 2 ^ 64 := Nat.or_lt_two_pow (n := 64) (by omega) (by omega)
  have b0 : (dgC x y).testBit (2 * i) = (x.testBit (2 * i) && !((x.testBit (2 * i) != y.testBit (2 * i)) || (x.testBit (2 * i + 1) != y.testBit (2 * i + 1)))) := by
    unfold dgC
    rw [Nat.testBit_and, show (18446744073709551615 : Nat) - (dgD x y ||| dgD x y * 2) = 2 ^ 64 - 1 - (dgD x y ||| dgD x y * 2) from rfl, tb_not hm, Nat.testBit_or, show dgD x y * 2 = dgD x y * 2 ^ 1 from rfl, tb_shl]
    rw [dgD_bit x y (2 * i) (by omega)]
    have e64 : decide (2 * i < 64) = true := by simp; omega
    have e2 : decide (2 * i % 2 = 0) = true := by simp
    rw [e64, e2]
    by_cases h0 : i = 0
    · subst h0; simp
    · rw [dgD_bit x y (2 * i - 1) (by omega)]
      have e3 : decide ((2 * i - 1) % 2 = 0) = false := by simp; omega
      rw [e3]
      simp
  have b1 : (dgC x y).testBit (2 * i + 1) = (x.testBit (2 * i + 1) && !((x.testBit (2 * i) != y.testBit (2 * i)) || (x.testBit (2 * i + 1) != y.testBit (2 * i + 1)))) := by
    unfold dgC
    rw [Nat.testBit_and, show (18446744073709551615 : Nat) - (dgD x y ||| dgD x y * 2) = 2 ^ 64 - 1 - (dgD x y ||| dgD x y * 2) from rfl, tb_not hm, Nat.testBit_or, show dgD x y * 2 = dgD x y * 2 ^ 1 from rfl, tb_shl]
    rw [dgD_bit x y (2 * i + 1) (by omega), show 2 * i + 1 - 1 = 2 * i by omega, dgD_bit x y (2 * i) (by omega)]
    have e64 : decide (2 * i + 1 < 64) = true := by simp; omega
    have e2 : decide (2 * i % 2 = 0) = true := by simp
    have e3 : decide ((2 * i + 1) % 2 = 0) = false := by simp
    have e4 : decide (1 ≤ 2 * i + 1) = true := by simp
    rw [e64, e2, e3, e4]
    simp
  rw [dg_bits, b0, b1, dg_bits x, dg_bits y]
  cases x.testBit (2 * i) <;> cases x.testBit (2 * i + 1) <;> cases y.testBit (2 * i) <;> cases y.testBit (2 * i + 1) <;> rfl
end Go.Proofs.YtilmidjkjgeoeaaDoor
