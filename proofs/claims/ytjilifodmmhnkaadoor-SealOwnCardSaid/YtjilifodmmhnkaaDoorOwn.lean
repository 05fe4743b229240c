/- The walk of SealOwn: it returns true, and nothing that was there has changed. Conditions: none beyond what its argument is, and its reach; the table of sixteen lies as the program lays it. -/
import Derived.Test.YtjilifodmmhnkaaDoorE
namespace Go.Proofs.YtjilifodmmhnkaaDoor
open Go.RowKit

theorem own_const {l : List Int} (h : Byt l) : crcI (l ++ [(crcI l : Int) % 256, (crcI l : Int) / 256 % 256, (crcI l : Int) / 65536 % 256, (crcI l : Int) / 16777216]) = 1214729159 := by
  have h1 := crc_own (nats l) (nats_lt h)
  have h2 := crcI_lt l
  rw [← h1]
  unfold crcI nats
  rw [List.map_append]
  have e : crc (List.map Int.toNat l) = crcI l := rfl
  rw [e]
  congr 1
  congr 1
  simp only [List.map_cons, List.map_nil, List.cons.injEq, and_true]
  exact ⟨by omega, by omega, by omega, by omega⟩
theorem own_byt {l : List Int} (h : Byt l) : Byt (l ++ [(crcI l : Int) % 256, (crcI l : Int) / 256 % 256, (crcI l : Int) / 65536 % 256, (crcI l : Int) / 16777216]) := by
  refine h.append fun b hb => ?_
  have h2 := crcI_lt l
  simp only [List.mem_cons, List.not_mem_nil, or_false] at hb
  omega

set_option maxHeartbeats 800000 in
theorem own_walk (A : Option Addr) (l : List Int) (c : Nat) (w : World) (hc : l.length ≤ c) (hcm : c ≤ maxLen) (hr : c ≤ 140737488351232) (hl : Lies w w.heap.size A c (cellsOf l)) (hy : Byt l) (ht : Tab w) :
    Calls Tryd.prog 7 #[.slice A l.length c] w fun e w' => e = .returned (.bool true) ∧ Below w.heap.size w w' := by
  have HL := Lib.hid hl
  have HY := Lib.hid hy
  have HT := Lib.hid ht
  have hpos := ht.1
  have hs := crcI_lt l
  have HC := Lib.hid (own_const hy)
  have HB := Lib.hid (own_byt hy)
  obtain ⟨i0, hi, hz0, hz1, hz2⟩ := info_parts info5
  clear hl hy ht
  go_enter Tryd.func7, Tryd.ntmps7
  go_wp2_with fail
  refine (head_true _ HT.out).mono ?_
  rintro e w1 ⟨rfl, hb1⟩
  have HL1 := Lib.hid (HL.out.below hb1)
  have s1 := hb1.size
  go_wp2_with fail
  refine (sum A l c _ _ hc hcm HL1.out HY.out (HT.out.below hb1 hpos)).mono ?_
  rintro e w2 ⟨rfl, rfl⟩
  generalize crcI l = s at *
  have ho := own_empty w1
  have hb := (Below.refl w1.heap.size w1).alloc (Nat.le_refl _) (.cells #[] 5)
  have HO := Lib.hid ho
  have HBb := Lib.hid hb
  clear ho hb
  go_wp2_with (first
    | (at_builtin; refine wpList_wanted (by kernel_rfl) ?_; refine wpList_append_lies rfl (.tmp 10) (.tmp 11) 22 rfl w1.heap.size 5 i0 (.int .u8 0) 1 Tryd.underlying22 hi hz0 hz1 hz2 rfl _ _ _ rfl HO.out w.heap.size A l.length c (cellsOf l) rfl (by simp) (HL1.out.below (HBb.out.mono s1)) (bytes_oneCell l) (by unfold maxLen; omega) (by omega) (by simp) ?_; intro v3 w3 ho3 hg3
       have hb3 : Below w1.heap.size w1 w3 := HBb.out.grown hg3 (by simp) (fun k hk => (HO.out.lt k hk).1)
       have s3 := hb3.size
       have hal := hb3.alloc s3 (.cells (cellsOf [(s : Int) % 256, (s : Int) / 256 % 256, (s : Int) / 65536 % 256, (s : Int) / 16777216]).toArray 5)
       have ho4 := own_below ho3 ((Below.refl w3.heap.size w3).alloc (Nat.le_refl _) (.cells (cellsOf [(s : Int) % 256, (s : Int) / 256 % 256, (s : Int) / 65536 % 256, (s : Int) / 16777216]).toArray 5)) (Nat.le_refl _)
       have hl4 := lies_new w3 [(s : Int) % 256, (s : Int) / 256 % 256, (s : Int) / 65536 % 256, (s : Int) / 16777216] 4 5 (0, 0)
       simp only [cellsOf, List.map_cons, List.map_nil] at hal hl4 ho4
       have HAL := Lib.hid hal
       have HO4 := Lib.hid ho4
       have HL4 := Lib.hid hl4
       clear hal ho4 hl4 ho3 hg3)
    | (at_builtin; refine wpList_wanted (by kernel_rfl) ?_; refine wpList_append_lies rfl (.tmp 12) (.tmp 24) 22 rfl w1.heap.size 5 i0 (.int .u8 0) 1 Tryd.underlying22 hi hz0 hz1 hz2 rfl _ _ _ rfl HO4.out _ _ 4 4 (cellsOf [(s : Int) % 256, (s : Int) / 256 % 256, (s : Int) / 65536 % 256, (s : Int) / 16777216]) rfl rfl HL4.out (bytes_oneCell _) (by unfold maxLen; omega) (by omega) HAL.out.size ?_; intro v5 w5 ho5 hg5
       have hb5 : Below w1.heap.size w1 w5 := HAL.out.grown hg5 HAL.out.size (fun k hk => (HO4.out.lt k hk).1)))
  have hb6 := hb1.trans (hb5.mono s1)
  obtain ⟨A6, c6, rfl, h1, h2, h3⟩ := own_lies (own_eq ho5 (m := (l ++ [(s : Int) % 256, (s : Int) / 256 % 256, (s : Int) / 65536 % 256, (s : Int) / 16777216]).length) (ys := cellsOf (l ++ [(s : Int) % 256, (s : Int) / 256 % 256, (s : Int) / 65536 % 256, (s : Int) / 16777216])) (by simp) (by simp))
  go_wp2_with fail
  refine (sum A6 _ c6 _ _ h1 h2 h3 HB.out (HT.out.below hb6 hpos)).mono ?_
  rw [HC.out]
  rintro e w7 ⟨rfl, rfl⟩
  clear ho5 h3 hg5
  go_wp2
  go_ret
  exact ⟨rfl, hb6⟩
end Go.Proofs.YtjilifodmmhnkaaDoor
