/- What the program's 'shiftFour' and 'Sum' return: the checksum's register moved by four bits, and the checksum. Conditions: the table of sixteen lies as the program lays it. -/
import Derived.Test.YtjilifodmmhnkaaDoorRows
import Derived.Test.YtjilifodmmhnkaaDoorMem
import Derived.Test.YtjilifodmmhnkaaDoorCrc
import Derived.WalkKit
import Derived.WalkSpells
import Derived.WalkLawsBesides
import Derived.Lib.Hide
import Derived.Outline
namespace Go.Proofs.YtjilifodmmhnkaaDoor
open Go.RowKit

/-- the table as the program lays it -/
def Tab (w : World) : Prop := 0 < w.heap.size ∧ ∀ k : Nat, k < 16 → w.cell? ⟨0, k, none⟩ = some (.int .u32 (sts 4 k : Nat))
theorem Tab.below {w w' : World} {B : Nat} (h : Tab w) (hb : Below B w w') (hB : 0 < B) : Tab w' :=
  ⟨Nat.lt_of_lt_of_le h.1 hb.size, fun k hk => by rw [hb.cell (show (Addr.mk 0 k none).block < B from hB)]; exact h.2 k hk⟩

theorem ret_int {k : IntKind} {a b : Int} (h : a = b) : Ending.returned (.int k a) = .returned (.int k b) := by rw [h]
theorem and15 (r : Nat) (h : r < 4294967296) : bits .and .u32 (r : Int) 15 = ((r % 16 : Nat) : Int) := by
  have h1 := u32_and_nat r 15 h (by omega)
  rw [show ((15 : Nat) : Int) = 15 from rfl] at h1
  rw [h1, show (15 : Nat) = 2 ^ 4 - 1 by rfl, Nat.and_two_pow_sub_one_eq_mod]
theorem xor4 (r : Nat) (h : r < 4294967296) : bits .xor .u32 ((r : Int) / 16) ((sts 4 (r % 16) : Nat) : Int) = ((sts 4 r : Nat) : Int) := by
  rw [show ((r : Int) / 16) = ((r / 16 : Nat) : Int) by omega, u32_xor_nat _ _ (by omega) (sts_lt 4 (by omega))]
  have h1 := sts_table 4 r
  rw [show 2 ^ 4 = 16 by rfl] at h1
  rw [h1, Nat.xor_comm]

set_option maxHeartbeats 400000 in
theorem shiftFour (r : Nat) (w : World) (hr : r < 4294967296) (ht : Tab w) :
    Calls Tryd.prog 19 #[.int .u32 r] w fun e w' => e = .returned (.int .u32 (sts 4 r : Nat)) ∧ w = w' := by
  have h1 := and15 r hr
  have h2 := xor4 r hr
  have hc := ht.2 (r % 16) (by omega)
  generalize sts 4 (r % 16) = s at *
  have HX := Lib.hid h2
  clear h2 ht
  have hm : r % 16 < 16 := by omega
  generalize r % 16 = m at *
  go_enter Tryd.func19, Tryd.ntmps19
  go_wp2
  go_ret
  exact ⟨ret_int HX.out, rfl⟩

/-- bytes as natural numbers -/
def nats (l : List Int) : List Nat := l.map Int.toNat
theorem nats_lt {l : List Int} (h : Byt l) : ∀ b ∈ nats l, b < 256 := by
  intro b hb
  obtain ⟨x, hx, rfl⟩ := List.mem_map.1 hb
  have := h x hx
  omega
/-- the register behind bytes -/
def regI (l : List Int) : Nat := reg 4294967295 (nats l)
theorem regI_nil : regI [] = 4294967295 := rfl
theorem regI_lt {l : List Int} (h : Byt l) : regI l < 4294967296 := reg_lt _ (by omega) (nats_lt h)
theorem regI_snoc (l : List Int) (b : Nat) : regI (l ++ [(b : Int)]) = sts 4 (sts 4 (regI l ^^^ b)) := by
  unfold regI nats
  rw [List.map_append, reg_append]
  show upd _ _ = _
  unfold upd
  rw [show 8 = 4 + 4 by rfl, sts_add]
  simp
/-- the checksum of bytes -/
def crcI (l : List Int) : Nat := crc (nats l)
theorem crcI_reg (l : List Int) : crcI l = 4294967295 - regI l := rfl
theorem crcI_lt (l : List Int) : crcI l < 4294967296 := crc_lt _
theorem take_next {α : Type} {ls : List α} {k : Nat} {l : α} (h : ls[k]? = some l) : ls.take (k + 1) = ls.take k ++ [l] := by
  rw [List.take_add_one, h]; rfl
/-- the byte at k -/
theorem Lies.byte {w : World} {B : Nat} {A : Option Addr} {c : Nat} {l : List Int} (h : Lies w B A c (cellsOf l)) (hy : Byt l) {k : Nat} (hk : k < l.length) :
    ∃ (ad : Addr) (b : Nat), A = some ad ∧ ad.block < B ∧ b < 256 ∧ l[k]? = some (b : Int) ∧ w.cell? (ad.add k) = some (.int .u8 (b : Nat)) := by
  have hl : l[k]? = some l[k] := List.getElem?_eq_getElem hk
  have hb := hy l[k] (List.getElem_mem _)
  obtain ⟨b, e⟩ := Int.eq_ofNat_of_zero_le hb.1
  obtain ⟨ad, h1, h2, h3⟩ := h.2 k (.int .u8 l[k]) (by simp [hl])
  rw [e] at hl h3 hb
  exact ⟨ad, b, h1, h2, by omega, hl, h3⟩
theorem xor_byte (r b : Nat) (hr : r < 4294967296) (hb : b < 256) : bits .xor .u32 (r : Int) (b : Int) = ((r ^^^ b : Nat) : Int) := u32_xor_nat r b hr (by omega)
theorem xor_byte_lt {r b : Nat} (hr : r < 4294967296) (hb : b < 256) : r ^^^ b < 4294967296 := Nat.xor_lt_two_pow (n := 32) hr (by omega)

theorem not32 (r : Nat) (h : r < 4294967296) : bits .xor .u32 IntKind.u32.max (r : Int) = ((4294967295 - r : Nat) : Int) := by
  have h1 := u32_xor_nat 4294967295 r (by omega) h
  rw [show IntKind.u32.max = ((4294967295 : Nat) : Int) from rfl, h1, not_xor h, Nat.xor_comm]

set_option maxHeartbeats 400000 in
theorem sum (A : Option Addr) (l : List Int) (c : Nat) (w : World) (B : Nat) (hc : l.length ≤ c) (hcm : c ≤ maxLen) (hl : Lies w B A c (cellsOf l)) (hy : Byt l) (ht : Tab w) :
    Calls Tryd.prog 13 #[.slice A l.length c] w fun e w' => e = .returned (.int .u32 (crcI l : Nat)) ∧ w = w' := by
  have HL := Lib.hid hl
  have HY := Lib.hid hy
  have HT := Lib.hid ht
  clear hl hy ht
  unfold maxLen at hcm
  have HN := Lib.hid regI_nil
  go_enter Tryd.func13, Tryd.ntmps13
  go_wp2
  go_loop [3, 8] (fun r i => ∃ k : Nat, k ≤ l.length ∧ i = .int .i64 k ∧ r = .int .u32 (regI (l.take k) : Nat)) (fun _ i => l.length - (intOf i).toNat)
  case atStart => exact ⟨0, Nat.zero_le _, rfl, by rw [List.take_zero, HN.out]; rfl⟩
  case round =>
    obtain ⟨k, hk, rfl, rfl⟩ := hrel
    have hr := regI_lt (HY.out.sub (a := l.take k) fun x hx => List.mem_of_mem_take hx)
    by_cases hlt : k < l.length
    · obtain ⟨ad, b, rfl, hB, hb, hg, hcell⟩ := HL.out.byte HY.out hlt
      have HS := Lib.hid (regI_snoc (l.take k) b)
      have HK := Lib.hid (take_next hg)
      clear hg
      have hx := xor_byte _ b hr hb
      have hxl := xor_byte_lt hr hb
      generalize regI (l.take k) = r at *
      go_wp2_with fail
      refine (shiftFour _ _ hxl HT.out).mono ?_
      rintro e w' ⟨rfl, rfl⟩
      go_wp2_with fail
      refine (shiftFour _ _ (sts_lt 4 hxl) HT.out).mono ?_
      rintro e w' ⟨rfl, rfl⟩
      clear hx
      go_wp2
      go_round
      case rel => exact ⟨k + 1, by omega, by go_num, by rw [HK.out, HS.out]⟩
      case measure => simp [intOf]; omega
    · obtain rfl : k = l.length := by omega
      have HC : Hid (crcI l = 4294967295 - regI l) := crcI_reg l
      rw [List.take_length] at *
      go_wp2
      go_ret
      exact ⟨ret_int (by rw [HC.out]; exact not32 _ hr), rfl⟩

theorem and1 (r : Nat) (h : r < 4294967296) : bits .and .u32 (r : Int) 1 = ((r % 2 : Nat) : Int) := by
  have h1 := u32_and_nat r 1 h (by omega)
  rw [show ((1 : Nat) : Int) = 1 from rfl] at h1
  rw [h1, show (1 : Nat) = 2 ^ 1 - 1 by rfl, Nat.and_two_pow_sub_one_eq_mod]
theorem sts_last (n r : Nat) : sts (n + 1) r = st (sts n r) := by rw [sts_add]; rfl
theorem st_odd (r : Nat) (h : r < 4294967296) (h1 : r % 2 = 1) : bits .xor .u32 ((r : Int) / 2) 2197175160 = ((st r : Nat) : Int) := by
  have h2 := u32_xor_nat (r / 2) 2197175160 (by omega) (by omega)
  rw [show ((2197175160 : Nat) : Int) = 2197175160 from rfl, show ((r / 2 : Nat) : Int) = (r : Int) / 2 by omega] at h2
  rw [h2]
  unfold st
  rw [if_pos h1]
theorem st_even (r : Nat) (h1 : r % 2 = 0) : ((st r : Nat) : Int) = (r : Int) / 2 := by
  unfold st
  rw [if_neg (by omega)]
  omega
theorem regI_snoc8 (l : List Int) (b : Nat) : regI (l ++ [(b : Int)]) = sts 8 (regI l ^^^ b) := by
  rw [regI_snoc, ← sts_add]

set_option maxHeartbeats 800000 in
theorem refSum (A : Option Addr) (l : List Int) (c : Nat) (w : World) (B : Nat) (hc : l.length ≤ c) (hcm : c ≤ maxLen) (hl : Lies w B A c (cellsOf l)) (hy : Byt l) :
    Calls Tryd.prog 14 #[.slice A l.length c] w fun e w' => e = .returned (.int .u32 (crcI l : Nat)) ∧ w = w' := by
  have HL := Lib.hid hl
  have HY := Lib.hid hy
  clear hl hy
  unfold maxLen at hcm
  have HN := Lib.hid regI_nil
  go_enter Tryd.func14, Tryd.ntmps14
  go_wp2
  go_loop [3, 4] (fun r i => ∃ k : Nat, k ≤ l.length ∧ i = .int .i64 k ∧ r = .int .u32 (regI (l.take k) : Nat)) (fun _ i => l.length - (intOf i).toNat)
  case atStart => exact ⟨0, Nat.zero_le _, rfl, by rw [List.take_zero, HN.out]; rfl⟩
  case round =>
    obtain ⟨k, hk, rfl, rfl⟩ := hrel
    have hr := regI_lt (HY.out.sub (a := l.take k) fun x hx => List.mem_of_mem_take hx)
    by_cases hlt : k < l.length
    · obtain ⟨ad, b, rfl, hB, hb, hg, hcell⟩ := HL.out.byte HY.out hlt
      have HS := Lib.hid (regI_snoc8 (l.take k) b)
      have HK := Lib.hid (take_next hg)
      clear hg
      have hx := xor_byte _ b hr hb
      have hxl := xor_byte_lt hr hb
      generalize regI (l.take k) = r at *
      generalize r ^^^ b = x at *
      go_wp2
      clear hx
      go_loop [3, 5] (fun r i => ∃ j : Nat, j ≤ 8 ∧ i = .int .i64 j ∧ r = .int .u32 (sts j x : Nat)) (fun _ i => 8 - (intOf i).toNat)
      case atStart => exact ⟨0, Nat.zero_le _, rfl, rfl⟩
      case round =>
        obtain ⟨j, hj, rfl, rfl⟩ := hrel
        have hrl := sts_lt j hxl
        by_cases hjl : j < 8
        · have HT := Lib.hid (sts_last j x)
          generalize sts j x = s at *
          have ha := and1 s hrl
          rcases Nat.mod_two_eq_zero_or_one s with h2 | h2
          · have HE := Lib.hid (st_even s h2)
            rw [h2] at ha
            clear h2
            go_wp2
            go_round
            case rel => exact ⟨j + 1, by omega, by go_num, by rw [HT.out, HE.out]⟩
            case measure => simp [intOf]; omega
          · have hE := st_odd s hrl h2
            rw [h2] at ha
            clear h2
            go_wp2
            clear hE
            go_round
            case rel => exact ⟨j + 1, by omega, by go_num, by rw [HT.out]⟩
            case measure => simp [intOf]; omega
        · obtain rfl : j = 8 := by omega
          go_wp2
          go_round
          case rel => exact ⟨k + 1, by omega, by go_num, by rw [HK.out, HS.out]⟩
          case measure => simp [intOf]; omega
    · obtain rfl : k = l.length := by omega
      have HC : Hid (crcI l = 4294967295 - regI l) := crcI_reg l
      rw [List.take_length] at *
      go_wp2
      go_ret
      exact ⟨ret_int (by rw [HC.out]; exact not32 _ hr), rfl⟩
end Go.Proofs.YtjilifodmmhnkaaDoor
