/- What 'appendInt' appends to a slice of the call's own: the bytes of the number, the most significant first. Conditions: the slice is the call's own. -/
import Derived.Test.YtecjkmemihmkcaaDoorA
import Derived.Test.YtecjkmemihmkcaaDoorPlain
namespace Go.Proofs.YtecjkmemihmkcaaDoor
set_option maxRecDepth 100000
open Go.RowKit
theorem info5 : (Tryd.prog.info? 5).map (fun i => (i.zero, i.size, i.bytes)) = some (some (.int .u8 0), 1, 1) := by kernel_rfl

theorem own_step {w wr w1 : World} {base m k : Nat} {v v' : Value} {xs : List Value} {n : Int} {top : Nat} (hb : Below base w wr) (hbase : base ≤ w.heap.size)
    (ho : wr.ownsRow base 5 1 v (m + k) (xs ++ cellsOf (be n top k))) {o : Obj}
    (h1 : w1.ownsRow base 5 1 v' (m + k + 1) (xs ++ (cellsOf (be n top k) ++ [.int .u8 (n / 2 ^ (8 * (top - k)) % 256)]))) (hg : (wr.alloc o).grownBy w1 v.ownBlock) :
    w1.ownsRow base 5 1 v' (m + (k + 1)) (xs ++ cellsOf (be n top (k + 1))) ∧ Below base w w1 := by
  refine ⟨?_, ?_⟩
  · rw [be_succ, cellsOf, List.map_append]
    exact h1
  · have := hb.size
    exact (hb.alloc (by omega) o).grown hg (by simp; omega) (fun k hk => (ho.lt k hk).1)

set_option maxHeartbeats 400000 in
theorem appendInt64 (v : Value) (m : Nat) (xs : List Value) (n : Int) (w : World) (base : Nat) (hown : w.ownsRow base 5 1 v m xs) (hm : m ≤ 100000000) (hbase : base ≤ w.heap.size) :
    Calls Tryd.prog 44 #[v, .int .i64 n, .int .i64 8] w fun e w' => ∃ v', e = .returned v' ∧ w'.ownsRow base 5 1 v' (m + 8) (xs ++ cellsOf (be n 7 8)) ∧ Below base w w' := by
  obtain ⟨i0, hi, hz0, hz1, hz2⟩ := info_parts info5
  go_enter Tryd.func44, Tryd.ntmps44
  go_wp2
  go_loopw [0, 7] (fun v i wr => ∃ k : Nat, k ≤ 8 ∧ i = .int .i64 (7 - (k : Int)) ∧ wr.ownsRow base 5 1 v (m + k) (xs ++ cellsOf (be n 7 k)) ∧ Below base w wr) (fun _ i _ => ((intOf i) + 1).toNat)
  case atStart => exact ⟨0, by omega, by simp, by simpa [be] using hown, Below.refl _ _⟩
  case round =>
    obtain ⟨k, hk, rfl, ho, hb⟩ := hrel
    have hsz := hb.size
    by_cases hlt : k < 8
    · go_wp2_with (at_builtin; refine wpList_append_own _ rfl (.tmp 14) (.tmp 20) 26 rfl base 5 i0 (.int .u8 0) 1 1 Tryd.underlying26 hi hz0 hz1 hz2 rfl (by decide) _ _ _ rfl (ho.alloc _) ⟨wr.heap.size, 0, none⟩ 1 1 [.int .u8 (n / 2 ^ (8 * (7 - k)) % 256)] rfl rfl ?c1 ?c2 ?c3 ?c4 ?c5 ?_)
      case c1 =>
        intro j u hj
        match j, hj with
        | 0, hj => simp at hj; subst hj; simp [Addr.add]
      case c2 => intro u hu; simp at hu; subst hu; rfl
      case c3 => unfold maxLen; omega
      case c4 => omega
      case c5 => simp; omega
      intro v' w1 h1 hg _
      have R := own_step hb hbase ho h1 hg
      clear h1 hg ho hown
      go_wp2
      go_roundw
      case rel => exact ⟨k + 1, by omega, by go_num, R.1, R.2⟩
      case measure => simp [intOf]; omega
    · obtain rfl : k = 8 := by omega
      go_wp2
      go_ret
      exact ⟨_, rfl, ho, hb⟩
set_option maxHeartbeats 400000 in
theorem appendInt32 (v : Value) (m : Nat) (xs : List Value) (n : Int) (w : World) (base : Nat) (hown : w.ownsRow base 5 1 v m xs) (hm : m ≤ 100000000) (hbase : base ≤ w.heap.size) :
    Calls Tryd.prog 47 #[v, .int .u32 n, .int .i64 4] w fun e w' => ∃ v', e = .returned v' ∧ w'.ownsRow base 5 1 v' (m + 4) (xs ++ cellsOf (be n 3 4)) ∧ Below base w w' := by
  obtain ⟨i0, hi, hz0, hz1, hz2⟩ := info_parts info5
  go_enter Tryd.func47, Tryd.ntmps47
  go_wp2
  go_loopw [0, 7] (fun v i wr => ∃ k : Nat, k ≤ 4 ∧ i = .int .i64 (3 - (k : Int)) ∧ wr.ownsRow base 5 1 v (m + k) (xs ++ cellsOf (be n 3 k)) ∧ Below base w wr) (fun _ i _ => ((intOf i) + 1).toNat)
  case atStart => exact ⟨0, by omega, by simp, by simpa [be] using hown, Below.refl _ _⟩
  case round =>
    obtain ⟨k, hk, rfl, ho, hb⟩ := hrel
    have hsz := hb.size
    by_cases hlt : k < 4
    · go_wp2_with (at_builtin; refine wpList_append_own _ rfl (.tmp 14) (.tmp 20) 26 rfl base 5 i0 (.int .u8 0) 1 1 Tryd.underlying26 hi hz0 hz1 hz2 rfl (by decide) _ _ _ rfl (ho.alloc _) ⟨wr.heap.size, 0, none⟩ 1 1 [.int .u8 (n / 2 ^ (8 * (3 - k)) % 256)] rfl rfl ?c1 ?c2 ?c3 ?c4 ?c5 ?_)
      case c1 =>
        intro j u hj
        match j, hj with
        | 0, hj => simp at hj; subst hj; simp [Addr.add]
      case c2 => intro u hu; simp at hu; subst hu; rfl
      case c3 => unfold maxLen; omega
      case c4 => omega
      case c5 => simp; omega
      intro v' w1 h1 hg _
      have R := own_step hb hbase ho h1 hg
      clear h1 hg ho hown
      go_wp2
      go_roundw
      case rel => exact ⟨k + 1, by omega, by go_num, R.1, R.2⟩
      case measure => simp [intOf]; omega
    · obtain rfl : k = 4 := by omega
      go_wp2
      go_ret
      exact ⟨_, rfl, ho, hb⟩
end Go.Proofs.YtecjkmemihmkcaaDoor
