/- Plain facts on the checksum's register: one step, four steps by a table of sixteen, a byte; it is linear, and no step loses anything. Conditions: those in each theorem. -/
import Derived.WalkKit
namespace Go.Proofs.YtjilifodmmhnkaaDoor

/-- one step of the register -/
def st (r : Nat) : Nat := if r % 2 = 1 then (r / 2) ^^^ 2197175160 else r / 2

theorem xor_mod2 (a b : Nat) : (a ^^^ b) % 2 = (a + b) % 2 := by
  have h := Nat.xor_mod_two_pow (a := a) (b := b) (n := 1)
  rw [Nat.pow_one] at h
  rw [h]
  rcases Nat.mod_two_eq_zero_or_one a with ha | ha <;> rcases Nat.mod_two_eq_zero_or_one b with hb | hb <;> rw [ha, hb] <;> simp <;> omega
theorem xor_zero_eq {a b : Nat} (h : a ^^^ b = 0) : a = b := by
  have h1 : (a ^^^ b) ^^^ b = b := by rw [h, Nat.zero_xor]
  rwa [Nat.xor_assoc, Nat.xor_self, Nat.xor_zero] at h1
theorem xor_div2 (a b : Nat) : (a ^^^ b) / 2 = a / 2 ^^^ b / 2 := by
  have := Nat.shiftRight_xor_distrib (a := a) (b := b) (i := 1)
  simpa [Nat.shiftRight_eq_div_pow] using this

theorem st_xor (a b : Nat) : st (a ^^^ b) = st a ^^^ st b := by
  unfold st
  rw [xor_mod2, xor_div2]
  rcases Nat.mod_two_eq_zero_or_one a with ha | ha <;> rcases Nat.mod_two_eq_zero_or_one b with hb | hb
  · rw [if_neg (by omega), if_neg (by omega), if_neg (by omega)]
  · rw [if_pos (by omega), if_neg (by omega), if_pos (by omega), Nat.xor_assoc]
  · rw [if_pos (by omega), if_pos (by omega), if_neg (by omega), Nat.xor_assoc, Nat.xor_comm (b / 2), Nat.xor_assoc]
  · rw [if_neg (by omega), if_pos (by omega), if_pos (by omega)]
    rw [show (a / 2 ^^^ 2197175160) ^^^ (b / 2 ^^^ 2197175160) = (a / 2 ^^^ b / 2) ^^^ (2197175160 ^^^ 2197175160) by ac_rfl, Nat.xor_self, Nat.xor_zero]
theorem st_lt {r : Nat} (h : r < 4294967296) : st r < 4294967296 := by
  unfold st
  split
  · exact Nat.xor_lt_two_pow (n := 32) (by omega) (by decide)
  · omega
theorem st_zero {r : Nat} (h : r < 4294967296) (h0 : st r = 0) : r = 0 := by
  unfold st at h0
  split at h0
  · have := xor_zero_eq h0
    omega
  · omega

/-- n steps -/
def sts : Nat → Nat → Nat
  | 0, r => r
  | n + 1, r => sts n (st r)
theorem sts_xor : ∀ (n a b : Nat), sts n (a ^^^ b) = sts n a ^^^ sts n b
  | 0, _, _ => rfl
  | n + 1, a, b => by simp only [sts]; rw [st_xor, sts_xor n]
theorem sts_lt : ∀ (n : Nat) {r : Nat}, r < 4294967296 → sts n r < 4294967296
  | 0, _, h => h
  | n + 1, _, h => sts_lt n (st_lt h)
theorem sts_zero : ∀ (n : Nat) {r : Nat}, r < 4294967296 → sts n r = 0 → r = 0
  | 0, _, _, h => h
  | n + 1, _, h, h0 => st_zero h (sts_zero n (st_lt h) h0)
theorem sts_add : ∀ (n m r : Nat), sts (n + m) r = sts m (sts n r)
  | 0, m, r => by rw [Nat.zero_add]; rfl
  | n + 1, m, r => by rw [Nat.succ_add]; exact sts_add n m (st r)
theorem sts_nil : ∀ (n : Nat), sts n 0 = 0
  | 0 => rfl
  | n + 1 => sts_nil n
/-- steps that meet noughts alone shift -/
theorem sts_shift : ∀ (n x : Nat), sts n (x * 2 ^ n) = x
  | 0, x => by simp [sts]
  | n + 1, x => by
    have : st (x * 2 ^ (n + 1)) = x * 2 ^ n := by
      unfold st
      rw [if_neg (by rw [Nat.pow_succ, ← Nat.mul_assoc]; omega), Nat.pow_succ, ← Nat.mul_assoc]
      omega
    simp only [sts]
    rw [this]
    exact sts_shift n x

/-- what is low and what is high -/
theorem split_low (n r : Nat) : r = (r % 2 ^ n) ^^^ (r / 2 ^ n * 2 ^ n) := by
  apply Nat.eq_of_testBit_eq
  intro i
  rw [Nat.testBit_xor, Nat.testBit_mod_two_pow, Nat.testBit_mul_two_pow, Nat.testBit_div_two_pow]
  by_cases h : i < n
  · simp [h, Nat.not_le.2 h]
  · have h' : n ≤ i := by omega
    simp [h, h', Nat.sub_add_cancel h']
/-- n steps by a table -/
theorem sts_table (n r : Nat) : sts n r = sts n (r % 2 ^ n) ^^^ r / 2 ^ n := by
  conv => lhs; rw [split_low n r]
  rw [sts_xor, sts_shift]

/-- a byte -/
def upd (r b : Nat) : Nat := sts 8 (r ^^^ b)
theorem upd_xor (r s a b : Nat) : upd (r ^^^ s) (a ^^^ b) = upd r a ^^^ upd s b := by
  unfold upd
  rw [← sts_xor]
  congr 1
  ac_rfl
theorem upd_lt {r b : Nat} (h : r < 4294967296) (hb : b < 256) : upd r b < 4294967296 := sts_lt 8 (Nat.xor_lt_two_pow (n := 32) h (by omega))
/-- two halves of a byte, each by a table of sixteen -/
theorem upd_nibbles (r b : Nat) : upd r b = sts 4 (sts 4 ((r ^^^ b) % 16) ^^^ (r ^^^ b) / 16) := by
  unfold upd
  rw [show 8 = 4 + 4 by rfl, sts_add, sts_table 4 (r ^^^ b)]

/-- the register behind some bytes -/
def reg (r : Nat) (l : List Nat) : Nat := l.foldl upd r
theorem reg_lt : ∀ (l : List Nat) {r : Nat}, r < 4294967296 → (∀ b ∈ l, b < 256) → reg r l < 4294967296
  | [], _, h, _ => h
  | b :: l, _, h, hl => reg_lt l (upd_lt h (hl b (List.mem_cons_self ..))) fun x hx => hl x (List.mem_cons_of_mem _ hx)
theorem reg_append (r : Nat) (a b : List Nat) : reg r (a ++ b) = reg (reg r a) b := by simp [reg]
/-- registers that differ stay so over the same bytes -/
theorem reg_diff : ∀ (l : List Nat) (r s : Nat), reg r l ^^^ reg s l = sts (8 * l.length) (r ^^^ s)
  | [], r, s => rfl
  | b :: l, r, s => by
    have h := reg_diff l (upd r b) (upd s b)
    rw [show reg r (b :: l) = reg (upd r b) l from rfl, show reg s (b :: l) = reg (upd s b) l from rfl, h, ← upd_xor, Nat.xor_self]
    unfold upd
    rw [Nat.xor_zero, List.length_cons, show 8 * (l.length + 1) = 8 + 8 * l.length by omega, sts_add]
/-- four bytes are as one of 32 bits, the lowest first -/
theorem reg_four (r a b c d : Nat) : reg r [a, b, c, d] = sts 32 (r ^^^ a ^^^ b * 2 ^ 8 ^^^ c * 2 ^ 16 ^^^ d * 2 ^ 24) := by
  have h2 : ∀ x, sts 8 (x * 2 ^ 8) = x := sts_shift 8
  have h16 : ∀ x, sts 16 (x * 2 ^ 16) = x := sts_shift 16
  have h24 : ∀ x, sts 24 (x * 2 ^ 24) = x := sts_shift 24
  show upd (upd (upd (upd r a) b) c) d = _
  unfold upd
  rw [show 32 = 8 + (8 + (8 + 8)) by rfl, sts_add, sts_add, sts_add]
  have e1 : sts 8 (r ^^^ a ^^^ b * 2 ^ 8 ^^^ c * 2 ^ 16 ^^^ d * 2 ^ 24) = sts 8 (r ^^^ a) ^^^ b ^^^ c * 2 ^ 8 ^^^ d * 2 ^ 16 := by
    rw [sts_xor, sts_xor, sts_xor, h2, show c * 2 ^ 16 = c * 2 ^ 8 * 2 ^ 8 by rw [Nat.mul_assoc, ← Nat.pow_add], h2, show d * 2 ^ 24 = d * 2 ^ 16 * 2 ^ 8 by rw [Nat.mul_assoc, ← Nat.pow_add], h2]
  have e2 : ∀ y, sts 8 (y ^^^ c * 2 ^ 8 ^^^ d * 2 ^ 16) = sts 8 y ^^^ c ^^^ d * 2 ^ 8 := fun y => by
    rw [sts_xor, sts_xor, h2, show d * 2 ^ 16 = d * 2 ^ 8 * 2 ^ 8 by rw [Nat.mul_assoc, ← Nat.pow_add], h2]
  have e3 : ∀ y, sts 8 (y ^^^ d * 2 ^ 8) = sts 8 y ^^^ d := fun y => by rw [sts_xor, h2]
  rw [e1, e2, e3]
/-- three of one length -/
def xors : List Nat → List Nat → List Nat → List Nat
  | a :: x, b :: y, c :: z => (a ^^^ b ^^^ c) :: xors x y z
  | _, _, _ => []
theorem reg_three : ∀ (x y z : List Nat) (r s t : Nat), x.length = y.length → y.length = z.length → reg (r ^^^ s ^^^ t) (xors x y z) = reg r x ^^^ reg s y ^^^ reg t z
  | [], [], [], r, s, t, _, _ => rfl
  | a :: x, b :: y, c :: z, r, s, t, h1, h2 => by
    show reg (upd (r ^^^ s ^^^ t) (a ^^^ b ^^^ c)) (xors x y z) = _
    rw [upd_xor, upd_xor]
    exact reg_three x y z _ _ _ (by simpa using h1) (by simpa using h2)

theorem xor_mul_pow (a b n : Nat) : (a ^^^ b) * 2 ^ n = a * 2 ^ n ^^^ b * 2 ^ n := by
  have := Nat.shiftLeft_xor_distrib (a := a) (b := b) (i := n)
  simpa [Nat.shiftLeft_eq] using this
/-- four bytes of a number, joined again -/
def join4 (a b c d : Nat) : Nat := a ^^^ b * 2 ^ 8 ^^^ c * 2 ^ 16 ^^^ d * 2 ^ 24
theorem join4_bytes {x : Nat} (h : x < 4294967296) : join4 (x % 256) (x / 256 % 256) (x / 65536 % 256) (x / 16777216 % 256) = x := by
  unfold join4
  have h1 := split_low 8 x
  have h2 := split_low 8 (x / 256)
  have h3 := split_low 8 (x / 65536)
  rw [show x / 16777216 % 256 = x / 16777216 by omega]
  have e3 : (x / 65536) * 2 ^ 16 = (x / 65536 % 256) * 2 ^ 16 ^^^ (x / 16777216) * 2 ^ 24 := by
    conv => lhs; rw [h3]
    rw [xor_mul_pow, Nat.mul_assoc, ← Nat.pow_add, Nat.div_div_eq_div_mul]
  have e2 : (x / 256) * 2 ^ 8 = (x / 256 % 256) * 2 ^ 8 ^^^ (x / 65536) * 2 ^ 16 := by
    conv => lhs; rw [h2]
    rw [xor_mul_pow, Nat.mul_assoc, ← Nat.pow_add, Nat.div_div_eq_div_mul]
  have e1 : x = x % 256 ^^^ (x / 256) * 2 ^ 8 := h1
  conv => rhs; rw [e1, e2, e3]
  ac_rfl
theorem join4_xor (a b c d e f g h : Nat) : join4 (a ^^^ e) (b ^^^ f) (c ^^^ g) (d ^^^ h) = join4 a b c d ^^^ join4 e f g h := by
  unfold join4
  rw [xor_mul_pow, xor_mul_pow, xor_mul_pow]
  ac_rfl
theorem reg_join (r a b c d : Nat) : reg r [a, b, c, d] = sts 32 (r ^^^ join4 a b c d) := by
  rw [reg_four]
  unfold join4
  congr 1
  ac_rfl

/-- four bytes one behind the other, changed: the register is another -/
theorem reg_spoilt (r : Nat) (pre post : List Nat) (a b c d e0 e1 e2 e3 : Nat) (h0 : join4 e0 e1 e2 e3 ≠ 0) (h1 : join4 e0 e1 e2 e3 < 4294967296) :
    reg r (pre ++ ([a ^^^ e0, b ^^^ e1, c ^^^ e2, d ^^^ e3] ++ post)) ≠ reg r (pre ++ ([a, b, c, d] ++ post)) := by
  intro h
  rw [reg_append, reg_append, reg_append, reg_append] at h
  have h2 : reg (reg (reg r pre) [a ^^^ e0, b ^^^ e1, c ^^^ e2, d ^^^ e3]) post ^^^ reg (reg (reg r pre) [a, b, c, d]) post = 0 := by rw [h, Nat.xor_self]
  rw [reg_diff, reg_join, reg_join, ← sts_xor] at h2
  have h3 : (reg r pre ^^^ join4 (a ^^^ e0) (b ^^^ e1) (c ^^^ e2) (d ^^^ e3)) ^^^ (reg r pre ^^^ join4 a b c d) = join4 e0 e1 e2 e3 := by
    rw [join4_xor]
    rw [show (reg r pre ^^^ (join4 a b c d ^^^ join4 e0 e1 e2 e3)) ^^^ (reg r pre ^^^ join4 a b c d) = (reg r pre ^^^ reg r pre) ^^^ (join4 a b c d ^^^ join4 a b c d) ^^^ join4 e0 e1 e2 e3 by ac_rfl, Nat.xor_self, Nat.xor_self, Nat.zero_xor, Nat.zero_xor]
  rw [h3] at h2
  exact h0 (sts_zero 32 h1 (sts_zero _ (sts_lt 32 h1) h2))

/-- the checksum -/
def crc (l : List Nat) : Nat := 4294967295 - reg 4294967295 l
theorem not_xor {r : Nat} (h : r < 4294967296) : 4294967295 - r = r ^^^ 4294967295 := by
  apply Nat.eq_of_testBit_eq
  intro i
  have e1 : (4294967295 - r).testBit i = (decide (i < 32) && !r.testBit i) := by
    rw [show 4294967295 - r = 2 ^ 32 - (r + 1) by omega]
    exact Nat.testBit_two_pow_sub_succ (by omega) i
  have e2 : (4294967295 : Nat).testBit i = decide (i < 32) := Nat.testBit_two_pow_sub_one 32 i
  rw [e1, Nat.testBit_xor, e2]
  by_cases hi : i < 32
  · simp [hi]
  · have : r.testBit i = false := Nat.testBit_lt_two_pow (Nat.lt_of_lt_of_le h (Nat.pow_le_pow_right (n := 2) (i := 32) (by omega) (by omega)))
    simp [hi, this]
theorem crc_lt (l : List Nat) : crc l < 4294967296 := by unfold crc; omega

/-- bytes with their own sum behind have one and the same sum -/
theorem crc_own (l : List Nat) (hl : ∀ b ∈ l, b < 256) : crc (l ++ [crc l % 256, crc l / 256 % 256, crc l / 65536 % 256, crc l / 16777216 % 256]) = 1214729159 := by
  have hr := reg_lt l (r := 4294967295) (by omega) hl
  have h1 : reg 4294967295 (l ++ [crc l % 256, crc l / 256 % 256, crc l / 65536 % 256, crc l / 16777216 % 256]) = sts 32 4294967295 := by
    rw [reg_append, reg_join, join4_bytes (crc_lt l)]
    congr 1
    unfold crc
    rw [not_xor hr, ← Nat.xor_assoc, Nat.xor_self, Nat.zero_xor]
  have h2 : sts 32 4294967295 = 3080238136 := by decide +kernel
  have h3 : ∀ l, crc l = 4294967295 - reg 4294967295 l := fun _ => rfl
  rw [h3, h1, h2]
/-- the sum of what is unlike of three -/
theorem crc_three (x y z : List Nat) (h1 : x.length = y.length) (h2 : y.length = z.length) (hx : ∀ b ∈ x, b < 256) (hy : ∀ b ∈ y, b < 256) (hz : ∀ b ∈ z, b < 256) :
    crc (xors x y z) = crc x ^^^ crc y ^^^ crc z := by
  have hrx := reg_lt x (r := 4294967295) (by omega) hx
  have hry := reg_lt y (r := 4294967295) (by omega) hy
  have hrz := reg_lt z (r := 4294967295) (by omega) hz
  have h := reg_three x y z 4294967295 4294967295 4294967295 h1 h2
  rw [show (4294967295 ^^^ 4294967295 ^^^ 4294967295 : Nat) = 4294967295 by decide] at h
  have h3 : reg 4294967295 (xors x y z) < 4294967296 := by
    rw [h]
    exact Nat.xor_lt_two_pow (n := 32) (Nat.xor_lt_two_pow (n := 32) hrx hry) hrz
  unfold crc
  rw [not_xor h3, not_xor hrx, not_xor hry, not_xor hrz, h]
  rw [show (reg 4294967295 x ^^^ 4294967295) ^^^ (reg 4294967295 y ^^^ 4294967295) ^^^ (reg 4294967295 z ^^^ 4294967295) = reg 4294967295 x ^^^ reg 4294967295 y ^^^ reg 4294967295 z ^^^ (4294967295 ^^^ 4294967295 ^^^ 4294967295) by ac_rfl]
  rfl
/-- what is spoilt has another sum -/
theorem crc_spoilt (pre post : List Nat) (a b c d x : Nat) (h0 : x ≠ 0) (h1 : x < 4294967296) (hp : ∀ b ∈ pre, b < 256) (hq : ∀ b ∈ post, b < 256) (ha : a < 256) (hb : b < 256) (hc : c < 256) (hd : d < 256) :
    crc (pre ++ ([a ^^^ x % 256, b ^^^ x / 256 % 256, c ^^^ x / 65536 % 256, d ^^^ x / 16777216 % 256] ++ post)) ≠ crc (pre ++ ([a, b, c, d] ++ post)) := by
  have hx : ∀ u v : Nat, u < 256 → u ^^^ v % 256 < 256 := fun u v hu => Nat.xor_lt_two_pow (n := 8) hu (Nat.mod_lt _ (by omega))
  have r1 : reg 4294967295 (pre ++ ([a ^^^ x % 256, b ^^^ x / 256 % 256, c ^^^ x / 65536 % 256, d ^^^ x / 16777216 % 256] ++ post)) < 4294967296 := by
    refine reg_lt _ (by omega) fun y hy => ?_
    simp only [List.mem_append, List.mem_cons, List.not_mem_nil, or_false] at hy
    rcases hy with h | (rfl | rfl | rfl | rfl) | h
    · exact hp y h
    · exact hx _ _ ha
    · exact hx _ _ hb
    · exact hx _ _ hc
    · exact hx _ _ hd
    · exact hq y h
  have r2 : reg 4294967295 (pre ++ ([a, b, c, d] ++ post)) < 4294967296 := by
    refine reg_lt _ (by omega) fun y hy => ?_
    simp only [List.mem_append, List.mem_cons, List.not_mem_nil, or_false] at hy
    rcases hy with h | (rfl | rfl | rfl | rfl) | h
    · exact hp y h
    · exact ha
    · exact hb
    · exact hc
    · exact hd
    · exact hq y h
  intro h
  refine reg_spoilt 4294967295 pre post a b c d (x % 256) (x / 256 % 256) (x / 65536 % 256) (x / 16777216 % 256) (by rw [join4_bytes h1]; exact h0) (by rw [join4_bytes h1]; exact h1) ?_
  unfold crc at h
  omega
end Go.Proofs.YtjilifodmmhnkaaDoor
