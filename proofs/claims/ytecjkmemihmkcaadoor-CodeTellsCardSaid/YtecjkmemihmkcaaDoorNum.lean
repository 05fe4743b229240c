/- Plain facts on the numbers that stand in bytes: what shifting and joining a byte gives. Conditions: those in each theorem. -/
import Derived.WalkKit
import Derived.Laws.BitsAllLaws
import Derived.Test.YtecjkmemihmkcaaDoorPlain
namespace Go.Proofs.YtecjkmemihmkcaaDoor
set_option maxRecDepth 100000
open Go.RowKit

/-- 'x | y' at 64 bits where y has only bits that x has not -/
theorem or64 (i : Nat) (x y : Int) (hi : i ≤ 64) (hx : x % 2 ^ i = 0) (h0 : 0 ≤ y) (h1 : y < 2 ^ i) : bits .or .i64 x y = wrap64 (x + y) := by
  have hp : (2 : Int) ^ i ∣ 18446744073709551616 := by
    have : (18446744073709551616 : Int) = 2 ^ i * 2 ^ (64 - i) := by rw [← Int.pow_add, show i + (64 - i) = 64 by omega]; rfl
    rw [this]; exact Int.dvd_mul_right _ _
  have hle : (2 : Int) ^ i ≤ 18446744073709551616 := Int.le_of_dvd (by decide) hp
  have hX : (x % 18446744073709551616) % 2 ^ i = 0 := by rw [Int.emod_emod_of_dvd _ hp]; exact hx
  have hy : y % 18446744073709551616 = y := Int.emod_eq_of_lt h0 (by omega)
  have e : bits .or .i64 x y = IntKind.i64.wrap (((x % 18446744073709551616).toNat ||| (y % 18446744073709551616).toNat : Nat) : Int) := by
    show IntKind.i64.wrap (((BitVec.ofInt 64 x ||| BitVec.ofInt 64 y).toNat : Nat) : Int) = _
    rw [BitVec.toNat_or, BitVec.toNat_ofInt, BitVec.toNat_ofInt]
    rfl
  rw [e, hy, IntWalk.i64_left]
  have hxn : 0 ≤ x % 18446744073709551616 := Int.emod_nonneg _ (by decide)
  obtain ⟨X, hXe⟩ := Int.eq_ofNat_of_zero_le hxn
  obtain ⟨Y, rfl⟩ := Int.eq_ofNat_of_zero_le h0
  rw [hXe] at hX ⊢
  have hX' : X % 2 ^ i = 0 := by exact_mod_cast hX
  have hY' : Y < 2 ^ i := by exact_mod_cast h1
  rw [Int.toNat_natCast, Int.toNat_natCast, nat_join i X Y hX' hY']
  unfold wrap64
  omega

theorem step64 (z b : Int) (h0 : 0 ≤ b) (h1 : b < 256) : bits .or .i64 (wrap64 (z * 256)) b = wrap64 (z * 256 + b) := by
  rw [or64 8 _ b (by omega) (by unfold wrap64; omega) h0 (by omega)]
  unfold wrap64
  omega

/-- 'x | y' at 32 bits where y has only bits that x has not -/
theorem step32 (z b : Int) (hz : 0 ≤ z) (hz2 : z < 16777216) (h0 : 0 ≤ b) (h1 : b < 256) : bits .or .u32 (z * 256) b = z * 256 + b := by
  rw [u32_or _ _ (by omega) (by omega) h0 (by omega)]
  obtain ⟨Z, rfl⟩ := Int.eq_ofNat_of_zero_le hz
  obtain ⟨Y, rfl⟩ := Int.eq_ofNat_of_zero_le h0
  rw [show ((Z : Int) * 256).toNat = Z * 256 by omega, Int.toNat_natCast, nat_join 8 (Z * 256) Y (by omega) (by omega)]
  omega

/-- the number that stands in bytes, the most significant first -/
def val (l : List Int) : Int := l.foldl (fun a b => a * 256 + b) 0
theorem val_nil : val [] = 0 := rfl
theorem val_snoc (l : List Int) (b : Int) : val (l ++ [b]) = val l * 256 + b := by simp [val]

/-- each of them is a byte -/
def Byt (l : List Int) : Prop := ∀ b ∈ l, 0 ≤ b ∧ b < 256
theorem Byt.nil : Byt [] := by intro b hb; cases hb
theorem Byt.append {a b : List Int} (ha : Byt a) (hb : Byt b) : Byt (a ++ b) := by
  intro x hx
  rcases List.mem_append.1 hx with h | h
  · exact ha x h
  · exact hb x h
theorem Byt.sub {a b : List Int} (hb : Byt b) (h : ∀ x ∈ a, x ∈ b) : Byt a := fun x hx => hb x (h x hx)
theorem be_byt (n : Int) (top k : Nat) : Byt (be n top k) := by
  intro b hb
  simp only [be, List.mem_map] at hb
  obtain ⟨j, _, rfl⟩ := hb
  omega

theorem fold_bound : ∀ (l : List Int) (a : Int) (n : Nat), 0 ≤ a → a < 256 ^ n → Byt l → 0 ≤ l.foldl (fun a b => a * 256 + b) a ∧ l.foldl (fun a b => a * 256 + b) a < 256 ^ (n + l.length)
  | [], a, n, h0, h1, _ => by simpa using ⟨h0, h1⟩
  | b :: l, a, n, h0, h1, h => by
    have h2 := h b (List.mem_cons_self ..)
    have h3 := fold_bound l (a * 256 + b) (n + 1) (by omega) (by rw [Int.pow_succ]; omega) (h.sub fun x hx => List.mem_cons_of_mem _ hx)
    rw [List.foldl_cons, List.length_cons, show n + (l.length + 1) = n + 1 + l.length by omega]
    exact h3
theorem val_bound (l : List Int) (h : Byt l) : 0 ≤ val l ∧ val l < 256 ^ l.length := by
  have := fold_bound l 0 0 (by omega) (by decide) h
  simpa [val] using this

/-- the part of a list of which the first k have been read -/
theorem part_next {α : Type} {l : List α} {p k : Nat} {b : α} (h : l[p + k]? = some b) : (l.drop p).take (k + 1) = (l.drop p).take k ++ [b] :=
  take_next (by rw [List.getElem?_drop]; exact h)

end Go.Proofs.YtecjkmemihmkcaaDoor
