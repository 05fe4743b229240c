/- Plain facts: of numbers that are not below 0 the lesser one's bytes are less. Conditions: those in each theorem. -/
import Derived.Test.YtjkdlchfmgefjaaQ
namespace Go.Proofs.Ytjkdlchfmgefjaa
open Go.RowKit

theorem fold_head : ∀ (l : List Int) (a : Int), l.foldl (fun a b => a * 256 + b) a = a * 256 ^ l.length + l.foldl (fun a b => a * 256 + b) 0
  | [], a => by simp
  | x :: r, a => by
    rw [List.foldl_cons, List.foldl_cons, fold_head r (a * 256 + x), fold_head r (0 * 256 + x), List.length_cons, Int.pow_succ, Int.add_mul, Int.mul_assoc, Int.mul_comm 256, Int.zero_mul, Int.zero_add]
    omega
theorem val_cons (a : Int) (l : List Int) : val (a :: l) = a * 256 ^ l.length + val l := by
  unfold val
  rw [List.foldl_cons, fold_head, Int.zero_mul, Int.zero_add]

/-- a byte of a string -/
def u8 (n : Int) : UInt8 := UInt8.ofNat n.toNat
theorem u8_lt {a b : Int} (ha : 0 ≤ a ∧ a < 256) (hb : 0 ≤ b ∧ b < 256) : u8 a < u8 b ↔ a < b := by
  unfold u8
  rw [UInt8.lt_iff_toNat_lt, UInt8.toNat_ofNat', UInt8.toNat_ofNat']
  omega
theorem u8_eq {a b : Int} (ha : 0 ≤ a ∧ a < 256) (hb : 0 ≤ b ∧ b < 256) : u8 a = u8 b ↔ a = b := by
  unfold u8
  rw [← UInt8.toNat_inj, UInt8.toNat_ofNat', UInt8.toNat_ofNat']
  omega

theorem less_val : ∀ (x y : List Int), x.length = y.length → Byt x → Byt y → Op.bytesLess (x.map u8) (y.map u8) = decide (val x < val y)
  | [], [], _, _, _ => by simp [Op.bytesLess, val]
  | a :: x, b :: y, h, hx, hy => by
    have hl : x.length = y.length := by simpa using h
    have ha := hx a (List.mem_cons_self ..)
    have hb := hy b (List.mem_cons_self ..)
    have hx' : Byt x := hx.sub fun z hz => List.mem_cons_of_mem _ hz
    have hy' : Byt y := hy.sub fun z hz => List.mem_cons_of_mem _ hz
    have ih := less_val x y hl hx' hy'
    have bx := val_bound x hx'
    have by_ := val_bound y hy'
    rw [val_cons, val_cons, List.map_cons, List.map_cons]
    simp only [Op.bytesLess]
    rw [ih, hl]
    rw [hl] at bx
    generalize (256 : Int) ^ y.length = P at *
    rw [Bool.eq_iff_iff]
    simp only [Bool.or_eq_true, Bool.and_eq_true, decide_eq_true_eq, beq_iff_eq, u8_lt ha hb, u8_eq ha hb]
    constructor
    · rintro (h1 | ⟨rfl, h1⟩)
      · have : (a + 1) * P ≤ b * P := Int.mul_le_mul_of_nonneg_right (by omega) (by omega)
        rw [Int.add_mul, Int.one_mul] at this
        omega
      · omega
    · intro h1
      rcases Int.lt_trichotomy a b with h2 | h2 | h2
      · exact .inl h2
      · exact .inr ⟨h2, by subst h2; omega⟩
      · exfalso
        have : (b + 1) * P ≤ a * P := Int.mul_le_mul_of_nonneg_right (by omega) (by omega)
        rw [Int.add_mul, Int.one_mul] at this
        omega

theorem val_be8_pos {n : Int} (h0 : 0 ≤ n) (h1 : n ≤ 9223372036854775807) : val (be n 7 8) = n := by
  rw [be8]
  simp only [val, List.foldl_cons, List.foldl_nil]
  omega
theorem less_be {a b : Int} (ha0 : 0 ≤ a) (ha : a ≤ 9223372036854775807) (hb0 : 0 ≤ b) (hb : b ≤ 9223372036854775807) :
    Op.bytesLess (strOfNums (be a 7 8)).toList (strOfNums (be b 7 8)).toList = decide (a < b) := by
  rw [ByteArray.toList_eq, ByteArray.toList_eq, strOfNums_data, strOfNums_data]
  have := less_val (be a 7 8) (be b 7 8) (by rw [be_length, be_length]) (be_byt _ _ _) (be_byt _ _ _)
  rw [val_be8_pos ha0 ha, val_be8_pos hb0 hb] at this
  exact this
end Go.Proofs.Ytjkdlchfmgefjaa
