/- What 'PutRow' returns, at every row: the document's bytes, or too many. Conditions: none beyond what a slice is. -/
import Derived.Test.YtecjkmemihmkcaaDoorC
import Derived.Lib.Hide
namespace Go.Proofs.YtecjkmemihmkcaaDoor
set_option maxRecDepth 100000
open Go.RowKit

set_option maxHeartbeats 400000 in
theorem putRow_long (A : Option Addr) (n c : Nat) (w : World) (hn : n ≤ maxLen) (h : 1024 < n) :
    Calls Tryd.prog 26 #[.slice A n c] w fun e w' => e = .returned (.tuple #[.slice none 0 0, .int .i64 2]) ∧ w = w' := by
  unfold maxLen at hn
  go_enter Tryd.func26, Tryd.ntmps26
  go_wp2
  go_ret2
  exact ⟨rfl, rfl⟩

set_option maxHeartbeats 400000 in
theorem putRow_bad (A : Option Addr) (c : Nat) (ls : List (List Int)) (w : World) (hg : Grid w w.heap.size A c ls) (hn : ls.length ≤ 1024) (hbad : FirstBad ls) :
    Calls Tryd.prog 26 #[.slice A ls.length c] w fun e w' => e = .returned (.tuple #[.slice none 0 0, .int .i64 2]) ∧ w = w' := by
  obtain ⟨k0, l0, hk0, hl0, hlow⟩ := hbad
  have hkl : k0 < ls.length := (List.getElem?_eq_some_iff.1 hk0).1
  have HK := Lib.hid hk0
  have HL := Lib.hid hlow
  have HG := Lib.hid hg
  clear hk0 hlow hg
  go_enter Tryd.func26, Tryd.ntmps26
  go_wp2
  go_loop [4, 15] (fun s i => ∃ k : Nat, k ≤ k0 ∧ i = .int .i64 k ∧ ∃ z : Nat, z ≤ k * 65540 + 4 ∧ s = .int .i64 z) (fun _ i => ls.length - (intOf i).toNat)
  case atStart => exact ⟨0, Nat.zero_le _, rfl, 4, by omega, rfl⟩
  case round =>
    obtain ⟨k, hk, rfl, z, hz, rfl⟩ := hrel
    have hkl2 : k < ls.length := by omega
    have hl : ls[k]? = some ls[k] := List.getElem?_eq_getElem (by omega)
    obtain ⟨l, hl⟩ : ∃ l, ls[k]? = some l := ⟨_, hl⟩
    obtain ⟨ad, A', c', rfl, hB, hc, h1, h2, h3⟩ := HG.out.2 k l hl
    unfold maxLen at h2
    by_cases hlt : k < k0
    · have hle := HL.out k l hlt hl
      clear hl
      go_wp2
      go_round
      case rel => exact ⟨k + 1, by omega, by go_num, z + (4 + l.length), by omega, by go_num⟩
      case measure => simp [intOf]; omega
    · obtain rfl : k = k0 := by omega
      have hgt : 65536 < l.length := by
        have h4 := HK.out
        rw [hl] at h4
        injection h4 with h4
        rw [h4]
        exact hl0
      clear hl
      go_wp2
      go_ret2
      exact ⟨rfl, rfl⟩

set_option maxHeartbeats 800000 in
theorem putRow (A : Option Addr) (c : Nat) (ls : List (List Int)) (w : World) (hg : Grid w w.heap.size A c ls) (hn : ls.length ≤ 1024) (hgood : ∀ l ∈ ls, l.length ≤ 65536) :
    Calls Tryd.prog 26 #[.slice A ls.length c] w fun e w' => ∃ A' c', e = .returned (.tuple #[.slice A' (rowBytes ls).length c', .int .i64 0]) ∧ (rowBytes ls).length ≤ c' ∧ c' ≤ maxLen ∧
      Lies w' w'.heap.size A' c' (cellsOf (rowBytes ls)) ∧ Below w.heap.size w w' := by
  have HF := Lib.hid (rowBytes_length ls)
  have HB := Lib.hid (szTo_le hgood)
  have HZ := Lib.hid (szTo_zero ls)
  have HG := Lib.hid hg
  have HO := Lib.hid hgood
  clear hg hgood
  have hfin := HB.out ls.length (Nat.le_refl _)
  obtain ⟨i0, hi, hz0, hz1, hz2⟩ := info_parts info5
  go_enter Tryd.func26, Tryd.ntmps26
  go_wp2
  go_loop [4, 15] (fun s i => ∃ k : Nat, k ≤ ls.length ∧ i = .int .i64 k ∧ s = .int .i64 (4 + (szTo ls k : Int))) (fun _ i => ls.length - (intOf i).toNat)
  case atStart => exact ⟨0, Nat.zero_le _, rfl, by rw [HZ.out]; rfl⟩
  case round =>
    obtain ⟨k, hk, rfl, rfl⟩ := hrel
    have hsz := HB.out k hk
    by_cases hkl : k < ls.length
    · obtain ⟨l, hl⟩ : ∃ l, ls[k]? = some l := ⟨_, List.getElem?_eq_getElem hkl⟩
      have hle := HO.out l (List.mem_of_getElem? hl)
      have HN := Lib.hid (szTo_next hl)
      obtain ⟨ad, A', c', rfl, hB, hc, h1, h2, h3⟩ := HG.out.2 k l hl
      unfold maxLen at h2
      clear hl
      go_wp2
      go_round
      case rel => exact ⟨k + 1, by omega, by go_num, by rw [HN.out]; go_num⟩
      case measure => simp [intOf]; omega
    · obtain rfl : k = ls.length := by omega
      go_wp2_with (at_make; refine wpList_make_own _ rfl _ _ 26 rfl w.heap.size 5 i0 (.int .u8 0) 1 Tryd.underlying26 hi hz0 hz1 _ _ _ (4 + szTo ls ls.length) rfl rfl (by omega) (by rw [hz2]; omega) (by unfold maxLen; omega) (Nat.le_refl _) ?_; intro w1 ho1 hg1)
      have hs1 := hg1.size
      have hb1 : Below w.heap.size w w1 := (Below.refl _ _).grown hg1 (Nat.le_refl _) (fun k hk => by cases hk)
      refine (appendInt32 _ 0 [] _ _ w.heap.size ho1 (by omega) hs1).mono ?_
      rintro e w2 ⟨v2, rfl, ho2, hb2⟩
      have hb := hb1.trans hb2
      clear hb1 hb2 ho1 hg1
      go_wp2
      go_loopw [7, 36] (fun v i wr => ∃ k : Nat, k ≤ ls.length ∧ i = .int .i64 k ∧ wr.ownsRow w.heap.size 5 1 v (4 + szTo ls k) (cellsOf (be ls.length 3 4 ++ bsTo ls k)) ∧ Below w.heap.size w wr) (fun _ i _ => ls.length - (intOf i).toNat)
      case atStart => exact ⟨0, Nat.zero_le _, rfl, by rw [HZ.out, bsTo_zero]; simpa using ho2, hb⟩
      case round =>
        clear hsz hk hkl hb ho2
        obtain ⟨k, hk, rfl, ho, hb⟩ := hrel
        have hsz := HB.out k hk
        have hs := hb.size
        by_cases hkl : k < ls.length
        · obtain ⟨l, hl⟩ : ∃ l, ls[k]? = some l := ⟨_, List.getElem?_eq_getElem hkl⟩
          have hle := HO.out l (List.mem_of_getElem? hl)
          have HN := Lib.hid (szTo_next hl)
          have HM := Lib.hid (bsTo_next hl)
          obtain ⟨ad, A', c', rfl, hB, hc0, h1, h2, h3⟩ := HG.out.2 k l hl
          have hc : wr.cell? (ad.add k) = some (.slice A' l.length c') := by rw [hb.cell (by rw [addr_block]; exact hB)]; exact hc0
          have h4 := h3.below hb
          clear hl h3 hc0
          go_wp2_with fail
          refine (appendBytes _ _ _ _ _ l _ w.heap.size ho (by omega) (by omega) h4 hle).mono ?_
          rintro e w3 ⟨v3, rfl, ho3, hb3⟩
          clear ho h4
          go_wp2
          go_roundw
          case rel => exact ⟨k + 1, by omega, by go_num, by rw [HN.out, HM.out]; simpa [Nat.add_assoc] using ho3, hb.trans hb3⟩
          case measure => simp [intOf]; omega
        · obtain rfl : k = ls.length := by omega
          obtain ⟨A2, c2, rfl, h1, h2, h3⟩ := own_lies ho
          go_wp2
          go_ret2
          rw [HF.out]
          exact ⟨A2, c2, rfl, h1, h2, h3, hb⟩
end Go.Proofs.YtecjkmemihmkcaaDoor
