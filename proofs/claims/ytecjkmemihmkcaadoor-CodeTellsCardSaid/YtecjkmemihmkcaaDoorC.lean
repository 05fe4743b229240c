/- What 'appendBytes', 'PutNum', 'PutBool' and 'PutBytes' return: the document's bytes, in new memory. Conditions: none beyond what a slice is. -/
import Derived.Test.YtecjkmemihmkcaaDoorB
import Derived.Test.YtecjkmemihmkcaaDoorMem
namespace Go.Proofs.YtecjkmemihmkcaaDoor
set_option maxRecDepth 100000
open Go.RowKit

set_option maxHeartbeats 400000 in
theorem appendBytes (v : Value) (m : Nat) (xs : List Value) (A : Option Addr) (c : Nat) (l : List Int) (w : World) (base : Nat) (hown : w.ownsRow base 5 1 v m xs) (hm : m ≤ 90000000) (hbase : base ≤ w.heap.size)
    (hl : Lies w base A c (cellsOf l)) (hl2 : l.length ≤ 65536) :
    Calls Tryd.prog 48 #[v, .slice A l.length c] w fun e w' => ∃ v', e = .returned v' ∧ w'.ownsRow base 5 1 v' (m + 4 + l.length) (xs ++ cellsOf (be l.length 3 4) ++ cellsOf l) ∧ Below base w w' := by
  obtain ⟨i0, hi, hz0, hz1, hz2⟩ := info_parts info5
  go_enter Tryd.func48, Tryd.ntmps48
  go_wp2_with fail
  refine (appendInt32 _ m xs _ _ base hown (by omega) hbase).mono ?_
  rintro e w1 ⟨v1, rfl, ho1, hb1⟩
  have hl1 := hl.below hb1
  have hs1 := hb1.size
  go_wp2_with (at_builtin; refine wpList_append_lies rfl (.tmp 9) (.tmp 10) 26 rfl base 5 i0 (.int .u8 0) 1 Tryd.underlying26 hi hz0 hz1 hz2 rfl v1 _ _ rfl ho1 base A l.length c (cellsOf l) rfl (by simp) hl1 (bytes_oneCell l) (by unfold maxLen; omega) (by omega) (by omega) ?_; intro v2 w2 ho2 hg2)
  go_ret
  exact ⟨_, rfl, ho2, hb1.grown hg2 (by omega) (fun k hk => (ho1.lt k hk).1)⟩

set_option maxHeartbeats 400000 in
theorem putNum (n : Int) (w : World) :
    Calls Tryd.prog 24 #[.int .i64 n] w fun e w' => ∃ A c, e = .returned (.slice A 8 c) ∧ 8 ≤ c ∧ c ≤ maxLen ∧ Lies w' w'.heap.size A c (cellsOf (be n 7 8)) ∧ Below w.heap.size w w' := by
  obtain ⟨i0, hi, hz0, hz1, hz2⟩ := info_parts info5
  go_enter Tryd.func24, Tryd.ntmps24
  go_wp2_with (at_make; refine wpList_make_own _ rfl _ _ 26 rfl w.heap.size 5 i0 (.int .u8 0) 1 Tryd.underlying26 hi hz0 hz1 _ _ _ 8 rfl rfl (by omega) (by rw [hz2]; omega) (by unfold maxLen; omega) (Nat.le_refl _) ?_; intro w1 ho1 hg1)
  have hs1 := hg1.size
  have hb1 : Below w.heap.size w w1 := (Below.refl _ _).grown hg1 (Nat.le_refl _) (fun k hk => by cases hk)
  refine (appendInt64 _ 0 [] _ _ w.heap.size ho1 (by omega) hs1).mono ?_
  rintro e w2 ⟨v2, rfl, ho2, hb2⟩
  obtain ⟨A, c, rfl, h1, h2, h3⟩ := own_lies ho2
  go_wp2
  go_ret
  exact ⟨A, c, rfl, by omega, h2, by simpa using h3, hb1.trans hb2⟩

set_option maxHeartbeats 400000 in
theorem putBytes_long (A : Option Addr) (n c : Nat) (w : World) (hn : n ≤ maxLen) (h : 65536 < n) :
    Calls Tryd.prog 45 #[.slice A n c] w fun e w' => e = .returned (.tuple #[.slice none 0 0, .int .i64 2]) ∧ w = w' := by
  unfold maxLen at hn
  go_enter Tryd.func45, Tryd.ntmps45
  go_wp2
  go_ret2
  exact ⟨rfl, rfl⟩

set_option maxHeartbeats 400000 in
theorem putBytes (A : Option Addr) (c : Nat) (l : List Int) (w : World) (hl : Lies w w.heap.size A c (cellsOf l)) (hl2 : l.length ≤ 65536) :
    Calls Tryd.prog 45 #[.slice A l.length c] w fun e w' => ∃ A' c', e = .returned (.tuple #[.slice A' (4 + l.length) c', .int .i64 0]) ∧ 4 + l.length ≤ c' ∧ c' ≤ maxLen ∧
      Lies w' w'.heap.size A' c' (cellsOf (be l.length 3 4 ++ l)) ∧ Below w.heap.size w w' := by
  obtain ⟨i0, hi, hz0, hz1, hz2⟩ := info_parts info5
  go_enter Tryd.func45, Tryd.ntmps45
  go_wp2_with (at_make; refine wpList_make_own _ rfl _ _ 26 rfl w.heap.size 5 i0 (.int .u8 0) 1 Tryd.underlying26 hi hz0 hz1 _ _ _ (4 + l.length) rfl rfl (by omega) (by rw [hz2]; omega) (by unfold maxLen; omega) (Nat.le_refl _) ?_; intro w1 ho1 hg1)
  have hs1 := hg1.size
  have hb1 : Below w.heap.size w w1 := (Below.refl _ _).grown hg1 (Nat.le_refl _) (fun k hk => by cases hk)
  refine (appendBytes _ 0 [] A c l _ w.heap.size ho1 (by omega) hs1 (hl.below hb1) hl2).mono ?_
  rintro e w2 ⟨v2, rfl, ho2, hb2⟩
  obtain ⟨A2, c2, rfl, h1, h2, h3⟩ := own_lies ho2
  go_wp2
  go_ret2
  simp only [Nat.zero_add, List.nil_append] at h1 h3 ⊢
  exact ⟨A2, c2, rfl, h1, h2, by rw [cellsOf, List.map_append]; exact h3, hb1.trans hb2⟩
end Go.Proofs.YtecjkmemihmkcaaDoor
