/- What 'appendBytes', 'PutNum', 'PutBool' and 'PutBytes' return: the document's bytes, in new memory. Conditions: none beyond what a slice is. -/
import Derived.Test.YtfcoccmbabmihaaB
import Derived.Test.YtfcoccmbabmihaaMem
namespace Go.Proofs.Ytfcoccmbabmihaa
open Go.RowKit

set_option maxHeartbeats 400000 in
theorem appendBytes (v : Value) (m : Nat) (xs : List Value) (A : Option Addr) (c : Nat) (l : List Int) (w : World) (base : Nat) (hown : w.ownsRow base 5 1 v m xs) (hm : m ≤ 90000000) (hbase : base ≤ w.heap.size)
    (hl : Lies w base A c (cellsOf l)) (hl2 : l.length ≤ 65536) :
    Calls Try.prog 41 #[v, .slice A l.length c] w fun e w' => ∃ v', e = .returned v' ∧ w'.ownsRow base 5 1 v' (m + 4 + l.length) (xs ++ cellsOf (be l.length 3 4) ++ cellsOf l) ∧ Below base w w' := by
  obtain ⟨i0, hi, hz0, hz1, hz2⟩ := info_parts info5
  go_enter Try.func41, Try.ntmps41
  go_wp2_with fail
  refine (appendInt32 _ m xs _ _ base hown (by omega) hbase).mono ?_
  rintro e w1 ⟨v1, rfl, ho1, hb1⟩
  have hl1 := hl.below hb1
  have hs1 := hb1.size
  go_wp2_with (at_builtin; refine wpList_append_lies rfl (.tmp 9) (.tmp 10) 23 rfl base 5 i0 (.int .u8 0) 1 Try.underlying23 hi hz0 hz1 hz2 rfl v1 _ _ rfl ho1 base A l.length c (cellsOf l) rfl (by simp) hl1 (bytes_oneCell l) (by unfold maxLen; omega) (by omega) (by omega) ?_; intro v2 w2 ho2 hg2)
  go_ret
  exact ⟨_, rfl, ho2, hb1.grown hg2 (by omega) (fun k hk => (ho1.lt k hk).1)⟩

end Go.Proofs.Ytfcoccmbabmihaa
