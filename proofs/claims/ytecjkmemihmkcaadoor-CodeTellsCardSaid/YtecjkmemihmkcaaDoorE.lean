/- What reading an integer of eight or of four bytes gives ('readInt', 'Num'), at every offset. Conditions: none beyond what a slice is. -/
import Derived.Test.YtecjkmemihmkcaaDoorD
import Derived.Test.YtecjkmemihmkcaaDoorNum
namespace Go.Proofs.YtecjkmemihmkcaaDoor
set_option maxRecDepth 100000
open Go.RowKit

theorem lies_at {w : World} {B : Nat} {A : Option Addr} {c : Nat} {l : List Int} (h : Lies w B A c (cellsOf l)) {j : Nat} {b : Int} (hb : l[j]? = some b) :
    ∃ ad, A = some ad ∧ ad.block < B ∧ w.cell? (ad.add j) = some (.int .u8 b) := h.2 j _ (by simp [hb])
theorem addr_add (a : Addr) (i j : Nat) : (a.add i).add j = a.add (i + j) := by
  unfold Addr.add
  by_cases hi : i = 0 <;> by_cases hj : j = 0 <;> simp [hi, hj, Nat.add_assoc]
theorem room_is0 {n : Nat} {p size : Int} (h : roomV n p size = 0) : 0 ≤ p ∧ p + size ≤ n ∧ p ≤ n := by
  unfold roomV at h
  split at h
  · omega
  · split at h <;> omega
theorem room_0 {n : Nat} {p size : Int} (h : 0 ≤ p) (h1 : p ≤ n) (h2 : p + size ≤ n) : roomV n p size = 0 := by
  unfold roomV
  rw [if_neg (by omega), if_neg (by omega)]
theorem room_vals (n : Nat) (p size : Int) : roomV n p size = 0 ∨ roomV n p size = 1 ∨ roomV n p size = 11 := by
  unfold roomV
  split
  · simp
  · split <;> simp
theorem wrap64_0 : wrap64 0 = 0 := by unfold wrap64; decide

/-- what an integer of eight bytes at p reads as -/
def numA (l : List Int) (p : Int) : Int := if roomV l.length p 8 = 0 then wrap64 (val ((l.drop p.toNat).take 8)) else 0
def numB (l : List Int) (p : Int) : Int := if roomV l.length p 8 = 0 then p + 8 else 0

set_option maxHeartbeats 400000 in
theorem readInt64 (A : Option Addr) (l : List Int) (c : Nat) (p : Int) (w : World) (B : Nat) (hc : l.length ≤ c) (hcm : c ≤ maxLen) (hp1 : -9223372036854775808 ≤ p) (hp2 : p ≤ 9223372036854775807) (hl : Lies w B A c (cellsOf l)) (hby : Byt l) :
    Calls Tryd.prog 73 #[.slice A l.length c, .int .i64 p, .int .i64 8] w fun e w' => e = .returned (.tuple #[.int .i64 (numA l p), .int .i64 (numB l p), .int .i64 (roomV l.length p 8)]) ∧ w = w' := by
  have HL := Lib.hid hl
  have HY := Lib.hid hby
  clear hl hby
  by_cases hr : roomV l.length p 8 = 0
  · have ha : numA l p = wrap64 (val ((l.drop p.toNat).take 8)) := if_pos hr
    have hb : numB l p = p + 8 := if_pos hr
    rw [ha, hb, hr]
    clear ha hb
    obtain ⟨hp0, hp8, _⟩ := room_is0 hr
    obtain ⟨p, rfl⟩ := Int.eq_ofNat_of_zero_le hp0
    rw [Int.toNat_natCast]
    have HR := Lib.hid hr
    clear hr
    have hcm' := hcm
    unfold maxLen at hcm
    go_enter Tryd.func73, Tryd.ntmps73
    go_wp2_with fail
    refine (room_any _ _ c p 8 _ (by omega) (by omega) (by omega) (by omega) (by omega)).mono ?_
    rintro e w1 ⟨rfl, rfl⟩
    rw [HR.out]
    go_wp2
    go_loop [10, 27] (fun s i => ∃ (k : Nat) (z : Int), k ≤ 8 ∧ i = .int .i64 k ∧ s = .int .i64 z ∧ z = wrap64 (val ((l.drop p).take k))) (fun _ i => 8 - (intOf i).toNat)
    case atStart => exact ⟨0, 0, by omega, rfl, rfl, by simp [val, wrap64_0]⟩
    case round =>
      obtain ⟨k, z, hk, rfl, rfl, hz⟩ := hrel
      have HZ := Lib.hid hz
      clear hz
      by_cases hlt : k < 8
      · obtain ⟨b, hb⟩ : ∃ b, l[p + k]? = some b := ⟨_, List.getElem?_eq_getElem (by omega)⟩
        obtain ⟨hb1, hb2⟩ := HY.out b (List.mem_of_getElem? hb)
        have HP := Lib.hid (part_next hb)
        obtain ⟨ad, rfl, _, hcell⟩ := lies_at HL.out hb
        rw [← addr_add] at hcell
        clear hb
        go_wp2
        go_round
        case rel => exact ⟨k + 1, _, by omega, by go_num, rfl, by rw [HP.out, val_snoc, step64 z b hb1 hb2, HZ.out]; unfold wrap64; omega⟩
        case measure => simp [intOf]; omega
      · have hge : 8 ≤ k := by omega
        go_wp2
        go_ret3
        obtain rfl : k = 8 := by omega
        exact ⟨by rw [HZ.out]; rfl, rfl⟩
  · have ha : numA l p = 0 := if_neg hr
    have hb : numB l p = 0 := if_neg hr
    rw [ha, hb]
    have hne : (roomV l.length p 8 != 0) = true := by simpa using hr
    generalize hg : roomV l.length p 8 = r at *
    have HR := Lib.hid hg
    clear hg hr ha hb
    go_enter Tryd.func73, Tryd.ntmps73
    go_wp2_with fail
    refine (room_any _ _ c p 8 _ (by omega) (by omega) (by omega) (by omega) (by omega)).mono ?_
    rintro e w1 ⟨rfl, rfl⟩
    rw [HR.out]
    go_wp2
    go_ret3
    exact ⟨rfl, rfl⟩

set_option maxHeartbeats 400000 in
theorem num (A : Option Addr) (l : List Int) (c : Nat) (p : Int) (w : World) (B : Nat) (hc : l.length ≤ c) (hcm : c ≤ maxLen) (hp1 : -9223372036854775808 ≤ p) (hp2 : p ≤ 9223372036854775807) (hl : Lies w B A c (cellsOf l)) (hby : Byt l) :
    Calls Tryd.prog 51 #[.slice A l.length c, .int .i64 p] w fun e w' => e = .returned (.tuple #[.int .i64 (numA l p), .int .i64 (numB l p), .int .i64 (roomV l.length p 8)]) ∧ w = w' := by
  have HY := Lib.hid hby
  clear hby
  go_enter Tryd.func51, Tryd.ntmps51
  go_wp2_with fail
  refine (readInt64 A l c p _ B hc hcm hp1 hp2 hl HY.out).mono ?_
  rintro e w1 ⟨rfl, rfl⟩
  go_wp2
  go_ret3
  exact ⟨rfl, rfl⟩

/-- what a length of four bytes at p reads as -/
def cntA (l : List Int) (p : Int) : Int := if roomV l.length p 4 = 0 then val ((l.drop p.toNat).take 4) else 0
def cntB (l : List Int) (p : Int) : Int := if roomV l.length p 4 = 0 then p + 4 else 0

set_option maxHeartbeats 400000 in
theorem readInt32 (A : Option Addr) (l : List Int) (c : Nat) (p : Int) (w : World) (B : Nat) (hc : l.length ≤ c) (hcm : c ≤ maxLen) (hp1 : -9223372036854775808 ≤ p) (hp2 : p ≤ 9223372036854775807) (hl : Lies w B A c (cellsOf l)) (hby : Byt l) :
    Calls Tryd.prog 77 #[.slice A l.length c, .int .i64 p, .int .i64 4] w fun e w' => e = .returned (.tuple #[.int .u32 (cntA l p), .int .i64 (cntB l p), .int .i64 (roomV l.length p 4)]) ∧ w = w' := by
  have HL := Lib.hid hl
  have HY := Lib.hid hby
  clear hl hby
  by_cases hr : roomV l.length p 4 = 0
  · have ha : cntA l p = val ((l.drop p.toNat).take 4) := if_pos hr
    have hb : cntB l p = p + 4 := if_pos hr
    rw [ha, hb, hr]
    clear ha hb
    obtain ⟨hp0, hp4, _⟩ := room_is0 hr
    obtain ⟨p, rfl⟩ := Int.eq_ofNat_of_zero_le hp0
    rw [Int.toNat_natCast]
    have HR := Lib.hid hr
    clear hr
    have hcm' := hcm
    unfold maxLen at hcm
    go_enter Tryd.func77, Tryd.ntmps77
    go_wp2_with fail
    refine (room_any _ _ c p 4 _ (by omega) (by omega) (by omega) (by omega) (by omega)).mono ?_
    rintro e w1 ⟨rfl, rfl⟩
    rw [HR.out]
    go_wp2
    go_loop [10, 27] (fun s i => ∃ (k : Nat) (z : Int), k ≤ 4 ∧ i = .int .i64 k ∧ s = .int .u32 z ∧ z = val ((l.drop p).take k)) (fun _ i => 4 - (intOf i).toNat)
    case atStart => exact ⟨0, 0, by omega, rfl, rfl, by simp [val]⟩
    case round =>
      obtain ⟨k, z, hk, rfl, rfl, hz⟩ := hrel
      have HZ := Lib.hid hz
      clear hz
      by_cases hlt : k < 4
      · obtain ⟨b, hb⟩ : ∃ b, l[p + k]? = some b := ⟨_, List.getElem?_eq_getElem (by omega)⟩
        obtain ⟨hb1, hb2⟩ := HY.out b (List.mem_of_getElem? hb)
        have HP := Lib.hid (part_next hb)
        obtain ⟨ad, rfl, _, hcell⟩ := lies_at HL.out hb
        rw [← addr_add] at hcell
        clear hb
        have hzb := val_bound ((l.drop p).take k) (HY.out.sub fun x hx => List.mem_of_mem_drop (List.mem_of_mem_take hx))
        rw [← HZ.out] at hzb
        have hz1 := hzb.1
        have hz2 : z < 16777216 := by
          refine Int.lt_of_lt_of_le hzb.2 ?_
          have hle : ((l.drop p).take k).length ≤ 3 := by have := List.length_take_le k (l.drop p); omega
          rcases (show ((l.drop p).take k).length = 0 ∨ ((l.drop p).take k).length = 1 ∨ ((l.drop p).take k).length = 2 ∨ ((l.drop p).take k).length = 3 by omega) with h | h | h | h <;> rw [h] <;> decide
        clear hzb
        go_wp2
        go_round
        case rel => exact ⟨k + 1, _, by omega, by go_num, rfl, by rw [HP.out, val_snoc, step32 z b hz1 hz2 hb1 hb2, HZ.out]⟩
        case measure => simp [intOf]; omega
      · have hge : 4 ≤ k := by omega
        go_wp2
        go_ret3
        obtain rfl : k = 4 := by omega
        exact ⟨by rw [HZ.out]; rfl, rfl⟩
  · have ha : cntA l p = 0 := if_neg hr
    have hb : cntB l p = 0 := if_neg hr
    rw [ha, hb]
    have hne : (roomV l.length p 4 != 0) = true := by simpa using hr
    generalize hg : roomV l.length p 4 = r at *
    have HR := Lib.hid hg
    clear hg hr ha hb
    go_enter Tryd.func77, Tryd.ntmps77
    go_wp2_with fail
    refine (room_any _ _ c p 4 _ (by omega) (by omega) (by omega) (by omega) (by omega)).mono ?_
    rintro e w1 ⟨rfl, rfl⟩
    rw [HR.out]
    go_wp2
    go_ret3
    exact ⟨rfl, rfl⟩

end Go.Proofs.YtecjkmemihmkcaaDoor
