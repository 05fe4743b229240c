/- The walk of TokenNumbers: it returns true, and nothing that was there has changed. Conditions: none beyond what its arguments are; the tables lie as the program lays them. -/
import Derived.Test.YtdmjlgjnboofdaaDoorH
namespace Go.Proofs.YtdmjlgjnboofdaaDoor
open Go.RowKit

theorem info5 : (Tryd.prog.info? 5).map (fun i => (i.zero, i.size, i.bytes)) = some (some (.int .u8 0), 1, 1) := by kernel_rfl
/-- a block just made is the call's own -/
theorem own_new (w : World) (cs : List Value) (n : Nat) (hn : cs.length = n) (hm : n ≤ maxLen) : (w.alloc (.cells cs.toArray 5)).ownsRow w.heap.size 5 1 (.slice (some ⟨w.heap.size, 0, none⟩) n n) n cs := by
  refine ⟨by omega, .inr ⟨w.heap.size, n, cs.toArray, rfl, Nat.le_refl _, heap_alloc_new w _, Nat.le_refl _, hm, by simp [hn], ?_⟩⟩
  rw [List.take_of_length_le (by simp; omega)]

theorem value_digit {k : Nat} (bl : List Nat) (hk : k ≤ 9223372036854775807) : value ((48 + k % 10) :: bl) (k / 10) = value bl k := by
  rw [value, if_neg (by omega)]
  congr 1
  omega
theorem value_nought (bl : List Nat) : value (48 :: bl) 0 = value bl 0 := by
  rw [value, if_neg (by omega)]
/-- digits are one number -/
theorem lexed_digits {l : List Nat} {v : Nat} (h0 : l ≠ []) (hl : l.length ≤ 4096) (hd : ∀ b ∈ l, digitB b = true) (hv : value l 0 = some v) : lexed l = ⟨0, [⟨2, [], v, 0⟩], 0⟩ := by
  rw [lexed_rest hl]
  cases l with
  | nil => exact absurd rfl h0
  | cons d r =>
    have hd0 := digit_range (hd d (by simp))
    have hs : skip (d :: r) 0 = 0 := by
      unfold skip
      rw [List.drop_zero, white, if_neg (by simp [blankB]; omega)]
    have hrun : run digitB (d :: r) = (d :: r).length := run_every digitB _ hd
    have hrd : readT ((d :: r).drop 0) = ⟨0, 2, [], v, (d :: r).length⟩ := by
      rw [List.drop_zero, readT_cons, if_neg (by simp [letterB]; omega), if_pos (hd d (by simp)), numT_some (v := v) (by rw [hrun, List.take_length]; exact hv), hrun]
    rw [hs, rest_next (by simp) (by rw [hrd]) (by simp), hrd]
    dsimp only
    rw [rest_end _ (by have := skip_ge (d :: r) (0 + (d :: r).length); omega)]
    rfl
theorem too_great : lexed [57, 50, 50, 51, 51, 55, 50, 48, 51, 54, 56, 53, 52, 55, 55, 53, 56, 48, 56] = ⟨32, [], 0⟩ := by kernel_rfl
theorem bynG : Byn [57, 50, 50, 51, 51, 55, 50, 48, 51, 54, 56, 53, 52, 55, 55, 53, 56, 48, 56] := by unfold Byn; decide
theorem byn_digits {l : List Nat} (h : ∀ b ∈ l, digitB b = true) : Byn l := fun b hb => by have := digit_range (h b hb); omega

theorem own_cons {w : World} {base : Nat} {v : Value} {n : Nat} {x : Int} {d : Nat} {bl : List Nat} (h : w.ownsRow base 5 1 v n ([.int .u8 x] ++ bts bl)) (hn : n = 1 + bl.length) (hx : x = (d : Nat)) : w.ownsRow base 5 1 v (d :: bl).length (bts (d :: bl)) := by
  subst hn hx
  have e : bts (d :: bl) = [.int .u8 ((d : Nat) : Int)] ++ bts bl := rfl
  rw [e, List.length_cons, Nat.add_comm]
  exact h
theorem all_cons {p : Nat → Bool} {d : Nat} {bl : List Nat} (h : ∀ b ∈ bl, p b = true) (hd : p d = true) : ∀ b ∈ d :: bl, p b = true := by
  intro b hb
  rcases List.mem_cons.1 hb with rfl | hb
  · exact hd
  · exact h b hb
theorem ten_le {n k N : Nat} (h : 10 ^ n * k ≤ N) (hk : 0 < k) (hN : N ≤ 9223372036854775807) : n ≤ 18 := by
  rcases Nat.lt_or_ge 18 n with h1 | h1
  · have h2 : 10 ^ 19 ≤ 10 ^ n := Nat.pow_le_pow_right (by omega) h1
    have h3 : 10 ^ n ≤ 10 ^ n * k := Nat.le_mul_of_pos_right _ hk
    omega
  · exact h1
theorem ten_next {n k N : Nat} (h : 10 ^ n * k ≤ N) : 10 ^ (n + 1) * (k / 10) ≤ N := by
  have h1 : 10 * (k / 10) ≤ k := Nat.mul_div_le k 10
  have h2 := Nat.mul_le_mul_left (10 ^ n) h1
  rw [← Nat.mul_assoc, show 10 ^ n * 10 = 10 ^ (n + 1) from rfl] at h2
  omega
theorem all_nil (p : Nat → Bool) : ∀ b ∈ ([] : List Nat), p b = true := by simp

set_option maxHeartbeats 3200000 in
theorem numbers_walk (n : Int) (z : Nat) (w : World) (hn1 : -9223372036854775808 ≤ n) (hn2 : n ≤ 9223372036854775807) (hz : z < 256) (ht : Tab w) :
    Calls Tryd.prog 6 #[.int .i64 n, .int .u8 z] w fun e w' => e = .returned (.bool true) ∧ Below w.heap.size w w' := by
  have HT := Lib.hid ht
  have hpos := ht.1
  clear ht
  obtain ⟨i0, hi, hz0, hz1, hz2⟩ := info_parts info5
  go_enter Tryd.func6, Tryd.ntmps6
  go_wp2_with fail
  refine (head_true _ HT.out).mono ?_
  rintro e w1 ⟨rfl, hb1⟩
  have BW1 := Lib.hid hb1
  have s1 := hb1.size
  clear hb1
  by_cases hneg : n < 0
  · go_wp2
    go_ret
    exact ⟨rfl, BW1.out⟩
  obtain ⟨N, rfl⟩ := Int.eq_ofNat_of_zero_le (show 0 ≤ n by omega)
  have hN : N ≤ 9223372036854775807 := by omega
  go_wp2
  go_loopw [6, 7] (fun v i wr => ∃ (k : Nat) (bl : List Nat), k ≤ 9223372036854775807 ∧ i = .int .i64 k ∧ wr.ownsRow w1.heap.size 5 1 v bl.length (bts bl) ∧ Below w1.heap.size w1 wr ∧ Hid (value bl k = some N) ∧ Hid (∀ b ∈ bl, digitB b = true) ∧ bl.length ≤ 19 ∧ Hid (0 < k → 10 ^ bl.length * k ≤ N)) (fun _ i _ => (intOf i).toNat)
  case atStart => exact ⟨N, [], hN, rfl, World.ownsRow_nil _ _ _ _, Below.refl _ _, rfl, all_nil digitB, Nat.zero_le _, (fun _ => by simp : 0 < N → 10 ^ ([] : List Nat).length * N ≤ N)⟩
  case round =>
    obtain ⟨k, bl, hk, rfl, hown, hbel, HV, HD, hlen, HP⟩ := hrel
    obtain ⟨A, c, rfl, h1, h2, h3⟩ := own_lies hown
    have HO := Lib.hid hown
    have HL := Lib.hid h3
    have HB := Lib.hid hbel
    have sr := hbel.size
    clear hown h3 hbel
    by_cases hk0 : 0 < k
    · have h18 := ten_le (HP.out hk0) hk0 hN
      have hnew := Lib.hid (own_new wr [.int .u8 (48 + (k : Int) % 10)] 1 rfl (by unfold maxLen; omega))
      have bnew := Lib.hid (HB.out.alloc sr (.cells #[.int .u8 (48 + (k : Int) % 10)] 5))
      have lnew := Lib.hid (HL.out.below (below_alloc wr (.cells #[.int .u8 (48 + (k : Int) % 10)] 5)))
      have snew : wr.heap.size ≤ (wr.alloc (.cells #[.int .u8 (48 + (k : Int) % 10)] 5)).heap.size := by simp
      go_wp2_with (at_builtin; refine wpList_append_lies rfl (.tmp 28) (.tmp 29) 22 rfl wr.heap.size 5 i0 (.int .u8 0) 1 Tryd.underlying22 hi hz0 hz1 hz2 rfl _ _ _ rfl hnew.out wr.heap.size A bl.length c (bts bl) rfl (by simp [bts]) lnew.out (bts_one bl) (by unfold maxLen; omega) (by omega) snew ?_; intro v3 w3 ho3 hg3)
      have hb3 : Below w1.heap.size w1 w3 := bnew.out.grown hg3 (Nat.le_trans sr snew) (fun g hg => Nat.le_trans sr (hnew.out.lt g hg).1)
      have ho4 := own_cons (own_mono ho3 sr) rfl (d := 48 + k % 10) (by omega)
      go_roundw
      case rel => exact ⟨k / 10, (48 + k % 10) :: bl, by omega, by go_num, ho4, hb3, (value_digit bl hk).trans HV.out, all_cons HD.out (by simp [digitB]; omega), by simp; omega, fun _ => ten_next (HP.out hk0)⟩
      case measure => simp [intOf]; omega
    · obtain rfl : k = 0 := by omega
      clear HP hk0
      rw [show ((0 : Nat) : Int) = 0 from rfl]
      go_wp2
      go_loopw [6, 8] (fun v i ws => ∃ (j : Nat) (cl : List Nat), j ≤ z % 20 + 1 ∧ i = .int .i64 j ∧ ws.ownsRow w1.heap.size 5 1 v cl.length (bts cl) ∧ Below w1.heap.size w1 ws ∧ Hid (value cl 0 = some N) ∧ Hid (∀ b ∈ cl, digitB b = true) ∧ cl.length ≤ 19 + j ∧ j ≤ cl.length) (fun _ i _ => z % 20 + 1 - (intOf i).toNat)
      case atStart => exact ⟨0, bl, Nat.zero_le _, rfl, HO.out, HB.out, HV.out, HD.out, hlen, Nat.zero_le _⟩
      case round =>
        clear HO HL HB HV HD
        obtain ⟨j, cl, hj, rfl, hown, hbel, HV, HD, hlen2, hlen3⟩ := hrel
        obtain ⟨A', c', rfl, h1', h2', h3'⟩ := own_lies hown
        have HO := Lib.hid hown
        have HL := Lib.hid h3'
        have HB := Lib.hid hbel
        have sr' := hbel.size
        clear hown h3' hbel
        by_cases hjl : j < z % 20 + 1
        · have hnew := Lib.hid (own_new wr [.int .u8 48] 1 rfl (by unfold maxLen; omega))
          have bnew := Lib.hid (HB.out.alloc sr' (.cells #[.int .u8 48] 5))
          have lnew := Lib.hid (HL.out.below (below_alloc wr (.cells #[.int .u8 48] 5)))
          have snew : wr.heap.size ≤ (wr.alloc (.cells #[.int .u8 48] 5)).heap.size := by simp
          go_wp2_with (at_builtin; refine wpList_append_lies rfl (.tmp 38) (.tmp 39) 22 rfl wr.heap.size 5 i0 (.int .u8 0) 1 Tryd.underlying22 hi hz0 hz1 hz2 rfl _ _ _ rfl hnew.out wr.heap.size A' cl.length c' (bts cl) rfl (by simp [bts]) lnew.out (bts_one cl) (by unfold maxLen; omega) (by omega) snew ?_; intro v3 w3 ho3 hg3)
          have hb3 : Below w1.heap.size w1 w3 := bnew.out.grown hg3 (Nat.le_trans sr' snew) (fun g hg => Nat.le_trans sr' (hnew.out.lt g hg).1)
          have ho4 := own_cons (own_mono ho3 sr') rfl (d := 48) rfl
          go_roundw
          case rel => exact ⟨j + 1, 48 :: cl, by omega, by go_num, ho4, hb3, (value_nought cl).trans HV.out, all_cons HD.out (by decide), by simp; omega, by simp; omega⟩
          case measure => simp [intOf]; omega
        · have hne : cl ≠ [] := by intro h; rw [h] at hlen3; simp at hlen3; omega
          have HX := Lib.hid (lexed_digits hne (by omega) HD.out HV.out)
          have hb2 := BW1.out.trans (HB.out.mono s1)
          have BW2 := Lib.hid hb2
          have s2 := hb2.size
          clear hi hz0 hz1 hz2 hb2
          go_wp2_with fail
          refine (lex A' cl c' _ h1' h2' HL.out (byn_digits HD.out) (HT.out.below BW2.out hpos)).mono ?_
          rw [HX.out]
          rintro e w5 ⟨v5, rfl, ho5, hb5⟩
          obtain ⟨g, cap, rfl, hg1, hg2, hrow⟩ := own_tok ho5 (by simp)
          have T1 := Lib.hid (hrow 0 _ rfl)
          have bw5 := BW2.out.trans (hb5.mono s2)
          have BW5 := Lib.hid bw5
          have s5 := bw5.size
          clear ho5 hb5 hrow bw5
          have hm : (convert 22 22 (.slice (some ⟨w5.heap.size, 0, none⟩) 19 19)).run Tryd.prog (w5.alloc (.cells #[.int .u8 57, .int .u8 50, .int .u8 50, .int .u8 51, .int .u8 51, .int .u8 55, .int .u8 50, .int .u8 48, .int .u8 51, .int .u8 54, .int .u8 56, .int .u8 53, .int .u8 52, .int .u8 55, .int .u8 55, .int .u8 53, .int .u8 56, .int .u8 48, .int .u8 56] 5)) = .ok (.slice (some ⟨w5.heap.size, 0, none⟩) 19 19) (w5.alloc (.cells #[.int .u8 57, .int .u8 50, .int .u8 50, .int .u8 51, .int .u8 51, .int .u8 55, .int .u8 50, .int .u8 48, .int .u8 51, .int .u8 54, .int .u8 56, .int .u8 53, .int .u8 52, .int .u8 55, .int .u8 55, .int .u8 53, .int .u8 56, .int .u8 48, .int .u8 56] 5 (19, 20))) := run_marked w5 _ 19 19
          have B0 := Lib.hid (below_alloc w5 (.cells #[.int .u8 57, .int .u8 50, .int .u8 50, .int .u8 51, .int .u8 51, .int .u8 55, .int .u8 50, .int .u8 48, .int .u8 51, .int .u8 54, .int .u8 56, .int .u8 53, .int .u8 52, .int .u8 55, .int .u8 55, .int .u8 53, .int .u8 56, .int .u8 48, .int .u8 56] 5 (19, 20)))
          have L0 : Hid (Lies (w5.alloc (.cells #[.int .u8 57, .int .u8 50, .int .u8 50, .int .u8 51, .int .u8 51, .int .u8 55, .int .u8 50, .int .u8 48, .int .u8 51, .int .u8 54, .int .u8 56, .int .u8 53, .int .u8 52, .int .u8 55, .int .u8 55, .int .u8 53, .int .u8 56, .int .u8 48, .int .u8 56] 5 (19, 20))) (w5.heap.size + 1) (some ⟨w5.heap.size, 0, none⟩) 19 (bts [57, 50, 50, 51, 51, 55, 50, 48, 51, 54, 56, 53, 52, 55, 55, 53, 56, 48, 56])) := lies_new w5 [57, 50, 50, 51, 51, 55, 50, 48, 51, 54, 56, 53, 52, 55, 55, 53, 56, 48, 56] 19 5 (19, 20)
          go_wp2_with fail
          clear hm
          refine (lex _ [57, 50, 50, 51, 51, 55, 50, 48, 51, 54, 56, 53, 52, 55, 55, 53, 56, 48, 56] 19 _ (by simp) (by unfold maxLen; omega) (L0.out.more (by simp)) bynG ((HT.out.below BW5.out hpos).below B0.out (by omega))).mono ?_
          rw [too_great]
          rintro e w6 ⟨v6, rfl, _, hb6⟩
          have bw6 := B0.out.trans (hb6.mono B0.out.size)
          have BW6 := Lib.hid (BW5.out.trans (bw6.mono s5))
          have T1' : w6.cell? ⟨g, 0, none⟩ = some (.int .i64 2) := (T1.out.below bw6 hg2).1
          have T2' : w6.cell? ⟨g, 2, none⟩ = some (.int .i64 N) := (T1.out.below bw6 hg2).2.2.1
          clear hb6 bw6 B0 L0 T1
          go_wp2
          go_ret
          exact ⟨rfl, BW6.out⟩
end Go.Proofs.YtdmjlgjnboofdaaDoor
