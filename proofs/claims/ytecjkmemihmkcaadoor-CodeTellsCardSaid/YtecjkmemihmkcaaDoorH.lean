/- What reading a boolean gives, and what the document's own answers give of numbers and booleans. Conditions: none beyond what a slice is. -/
import Derived.Test.YtecjkmemihmkcaaDoorF
namespace Go.Proofs.YtecjkmemihmkcaaDoor
set_option maxRecDepth 100000
open Go.RowKit

/-- what a boolean at p reads as -/
def boolE (l : List Int) (p : Int) : Int := if roomV l.length p 1 = 0 then (if 1 < l.getD p.toNat 0 then 12 else 0) else roomV l.length p 1
def boolA (l : List Int) (p : Int) : Bool := if roomV l.length p 1 = 0 then l.getD p.toNat 0 == 1 else false
def boolB (l : List Int) (p : Int) : Int := if boolE l p = 0 then p + 1 else 0

theorem getD_of {l : List Int} {p : Nat} {b : Int} (h : l[p]? = some b) : l.getD p 0 = b := by simp [List.getD, h]

theorem Lies.cut {w : World} {B : Nat} {A : Option Addr} {c : Nat} {l : List Int} (h : Lies w B A c (cellsOf l)) {p : Nat} (hc : l.length ≤ c) :
    Lies w B (if c = p then A else A.map (fun x => x.add p)) (c - p) (cellsOf (l.drop p)) := by
  refine ⟨fun e => ?_, fun j u hu => ?_⟩
  · split at e
    · omega
    · have : A = none := by simpa using e
      have := h.1 this
      omega
  · have hu' : (cellsOf l)[p + j]? = some u := by simpa [cellsOf, List.getElem?_drop] using hu
    have hj : p + j < l.length := by
      have := (List.getElem?_eq_some_iff.1 hu').1
      simpa using this
    obtain ⟨ad, rfl, hB, hcell⟩ := h.2 (p + j) u hu'
    rw [if_neg (by omega)]
    exact ⟨ad.add p, rfl, by rw [addr_block]; exact hB, by rw [addr_add]; exact hcell⟩

/-- what 'there' returns inside -/
def ThereOk (w : World) (B c : Nat) (l : List Int) (p : Nat) (e : Ending) (w' : World) : Prop :=
  ∃ A', e = .returned (.tuple #[.slice A' (l.length - p) (c - p), .int .i64 0]) ∧ Lies w B A' (c - p) (cellsOf (l.drop p)) ∧ w = w'

set_option maxHeartbeats 400000 in
theorem there_ok (A : Option Addr) (l : List Int) (c : Nat) (p : Nat) (w : World) (B : Nat) (hc : l.length ≤ c) (hp : p ≤ l.length) (hl : Lies w B A c (cellsOf l)) :
    Calls Tryd.prog 79 #[.slice A l.length c, .int .i64 p] w (ThereOk w B c l p) := by
  have hcut := hl.cut (p := p) hc
  clear hl
  have hd1 : decide ((p : Int) < 0) = false := by simp
  by_cases hcp : c = p
  · rw [if_pos hcp] at hcut
    have HC := Lib.hid hcut
    subst hcp
    clear hcut
    go_enter Tryd.func79, Tryd.ntmps79
    go_wp2
    go_ret2
    exact ⟨A, by simp; omega, HC.out, rfl⟩
  · rw [if_neg hcp] at hcut
    have HC := Lib.hid hcut
    clear hcut
    have hlt : p < c := by omega
    go_enter Tryd.func79, Tryd.ntmps79
    go_wp2
    go_ret2
    exact ⟨_, rfl, HC.out, rfl⟩

set_option maxHeartbeats 400000 in
theorem there_bad (A : Option Addr) (n c : Nat) (p : Int) (w : World) (hp : p < 0 ∨ (n : Int) < p) :
    Calls Tryd.prog 79 #[.slice A n c, .int .i64 p] w fun e w' => e = .returned (.tuple #[.slice none 0 0, .int .i64 1]) ∧ w = w' := by
  by_cases h : p < 0
  · go_enter Tryd.func79, Tryd.ntmps79
    go_wp2
    go_ret2
    exact ⟨rfl, rfl⟩
  · have h2 : (n : Int) < p := by omega
    go_enter Tryd.func79, Tryd.ntmps79
    go_wp2
    go_ret2
    exact ⟨rfl, rfl⟩

set_option maxHeartbeats 400000 in
theorem refNum (A : Option Addr) (l : List Int) (c : Nat) (p : Int) (w : World) (B : Nat) (hc : l.length ≤ c) (hcm : c ≤ maxLen) (hp1 : -9223372036854775808 ≤ p) (hp2 : p ≤ 9223372036854775807) (hl : Lies w B A c (cellsOf l)) (hby : Byt l) :
    Calls Tryd.prog 78 #[.slice A l.length c, .int .i64 p] w fun e w' => e = .returned (.tuple #[.int .i64 (numA l p), .int .i64 (numB l p), .int .i64 (roomV l.length p 8)]) ∧ w = w' := by
  have HL := Lib.hid hl
  have HY := Lib.hid hby
  clear hl hby
  have hcm' := hcm
  unfold maxLen at hcm
  by_cases hin : 0 ≤ p ∧ p ≤ l.length
  · obtain ⟨hp0, hpl⟩ := hin
    obtain ⟨p, rfl⟩ := Int.eq_ofNat_of_zero_le hp0
    have hpl' : p ≤ l.length := by omega
    by_cases h8 : p + 8 ≤ l.length
    · have hr : roomV l.length p 8 = 0 := room_0 (by omega) (by omega) (by omega)
      have ha : numA l p = wrap64 (val ((l.drop p).take 8)) := by unfold numA; rw [if_pos hr, Int.toNat_natCast]
      have hb : numB l p = (p : Int) + 8 := if_pos hr
      rw [ha, hb, hr]
      clear ha hb hr
      go_enter Tryd.func78, Tryd.ntmps78
      go_wp2_with fail
      refine (there_ok A l c p _ B hc hpl' HL.out).mono ?_
      rintro e w1 ⟨A', rfl, hl', rfl⟩
      have HL' := Lib.hid hl'
      clear hl'
      have hlt8 : ¬ ((l.length - p : Nat) : Int) < 8 := by omega
      go_wp2
      go_loop [9, 10] (fun s i => ∃ (k : Nat) (z : Int), k ≤ 8 ∧ i = .int .i64 k ∧ s = .int .i64 z ∧ z = wrap64 (val ((l.drop p).take k))) (fun _ i => 8 - (intOf i).toNat)
      case atStart => exact ⟨0, 0, by omega, rfl, rfl, by simp [val, wrap64_0]⟩
      case round =>
        obtain ⟨k, z, hk, rfl, rfl, hz⟩ := hrel
        have HZ := Lib.hid hz
        clear hz
        by_cases hlt : k < 8
        · obtain ⟨b, hb⟩ : ∃ b, l[p + k]? = some b := ⟨_, List.getElem?_eq_getElem (by omega)⟩
          obtain ⟨hb1, hb2⟩ := HY.out b (List.mem_of_getElem? hb)
          have HP := Lib.hid (part_next hb)
          obtain ⟨ad, rfl, _, hcell⟩ := lies_at HL'.out (j := k) (b := b) (by rw [List.getElem?_drop]; exact hb)
          clear hb
          go_wp2
          go_round
          case rel => exact ⟨k + 1, _, by omega, by go_num, rfl, by rw [HP.out, val_snoc, step64 z b hb1 hb2, HZ.out]; unfold wrap64; omega⟩
          case measure => simp [intOf]; omega
        · have hge : 8 ≤ k := by omega
          go_wp2
          go_ret3
          obtain rfl : k = 8 := by omega
          exact ⟨by rw [HZ.out]; rfl, rfl⟩
    · have hr : roomV l.length p 8 = 11 := by unfold roomV; rw [if_neg (by omega), if_pos (by omega)]
      have ha : numA l p = 0 := by unfold numA; rw [if_neg (by omega)]
      have hb : numB l p = 0 := by unfold numB; rw [if_neg (by omega)]
      rw [ha, hb, hr]
      clear ha hb hr
      have hlt8 : ((l.length - p : Nat) : Int) < 8 := by omega
      go_enter Tryd.func78, Tryd.ntmps78
      go_wp2_with fail
      refine (there_ok A l c p _ B hc hpl' HL.out).mono ?_
      rintro e w1 ⟨A', rfl, hl', rfl⟩
      clear hl'
      go_wp2
      go_ret3
      exact ⟨rfl, rfl⟩
  · have hr : roomV l.length p 8 = 1 := by unfold roomV; rw [if_pos (by omega)]
    have ha : numA l p = 0 := by unfold numA; rw [if_neg (by omega)]
    have hb : numB l p = 0 := by unfold numB; rw [if_neg (by omega)]
    rw [ha, hb, hr]
    clear ha hb hr
    go_enter Tryd.func78, Tryd.ntmps78
    go_wp2_with fail
    refine (there_bad A l.length c p _ (by omega)).mono ?_
    rintro e w1 ⟨rfl, rfl⟩
    go_wp2
    go_ret3
    exact ⟨rfl, rfl⟩

set_option maxHeartbeats 400000 in
theorem refPutNum (n : Int) (w : World) :
    Calls Tryd.prog 27 #[.int .i64 n] w fun e w' => ∃ A c, e = .returned (.slice A 8 c) ∧ 8 ≤ c ∧ c ≤ maxLen ∧ Lies w' w'.heap.size A c (cellsOf (be n 7 8)) ∧ Below w.heap.size w w' := by
  obtain ⟨i0, hi, hz0, hz1, hz2⟩ := info_parts info5
  go_enter Tryd.func27, Tryd.ntmps27
  go_wp2
  go_loopw [3, 4] (fun v i wr => ∃ k : Nat, k ≤ 8 ∧ i = .int .i64 (56 - 8 * (k : Int)) ∧ wr.ownsRow w.heap.size 5 1 v (0 + k) ([] ++ cellsOf (be n 7 k)) ∧ Below w.heap.size w wr) (fun _ i _ => ((intOf i) + 8).toNat)
  case atStart => exact ⟨0, by omega, by simp, World.ownsRow_nil _ _ _ _, Below.refl _ _⟩
  case round =>
    obtain ⟨k, hk, rfl, ho, hb⟩ := hrel
    have hsz := hb.size
    by_cases hlt : k < 8
    · go_wp2_with (first | (at_builtin; refine wpList_append_own _ rfl (.tmp 9) (.tmp 14) 26 rfl w.heap.size 5 i0 (.int .u8 0) 1 1 Tryd.underlying26 hi hz0 hz1 hz2 rfl (by decide) _ _ _ rfl (ho.alloc _) ⟨wr.heap.size, 0, none⟩ 1 1 [.int .u8 (n / 2 ^ (56 - 8 * k) % 256)] rfl rfl ?c1 ?c2 ?c3 ?c4 ?c5 ?_))
      case c1 =>
        intro j u hj
        match j, hj with
        | 0, hj => simp at hj; subst hj; simp [Addr.add]
      case c2 => intro u hu; simp at hu; subst hu; rfl
      case c3 => unfold maxLen; omega
      case c4 => omega
      case c5 => simp; omega
      intro v' w1 h1 hg _
      rw [show 56 - 8 * k = 8 * (7 - k) by omega] at h1
      have R := own_step (m := 0) (xs := []) (v' := v') hb (Nat.le_refl _) ho (by simpa using h1) hg
      clear h1 hg ho
      go_wp2
      go_roundw
      case rel => exact ⟨k + 1, by omega, by go_num, R.1, R.2⟩
      case measure => simp [intOf]; omega
    · have hge : 8 ≤ k := by omega
      obtain ⟨A, c, rfl, h1, h2, h3⟩ := own_lies ho
      go_wp2
      go_ret
      obtain rfl : k = 8 := by omega
      exact ⟨A, c, rfl, by omega, h2, by simpa using h3, hb⟩
end Go.Proofs.YtecjkmemihmkcaaDoor
