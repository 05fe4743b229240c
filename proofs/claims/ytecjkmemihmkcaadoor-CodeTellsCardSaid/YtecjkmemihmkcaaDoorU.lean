/- What the program's functions that make byte strings and rows return, told as memory of the call's own, found or not. Conditions: none beyond what a slice is. -/
import Derived.Test.YtecjkmemihmkcaaDoorL
namespace Go.Proofs.YtecjkmemihmkcaaDoor
set_option maxRecDepth 100000
open Go.RowKit

theorem own_mono {w : World} {base base' : Nat} {e : TypeId} {size : Nat} {v : Value} {n : Nat} {xs : List Value} (h : w.ownsRow base e size v n xs) (hb : base' ≤ base) : w.ownsRow base' e size v n xs := by
  refine ⟨h.1, ?_⟩
  rcases h.2 with h' | ⟨g, cap, cur, hv, h1, rest⟩
  · exact .inl h'
  · exact .inr ⟨g, cap, cur, hv, by omega, rest⟩
theorem own_eq {w : World} {base : Nat} {e : TypeId} {v : Value} {n m : Nat} {xs ys : List Value} (h : w.ownsRow base e 1 v n xs) (hn : n = m) (hx : xs = ys) : w.ownsRow base e 1 v m ys := by
  subst hn hx
  exact h
/-- rows of bytes and rows of slices are not one -/
theorem own_ne {w : World} {b b' n n' : Nat} {x v : Value} {xs ys : List Value} (h5 : w.ownsRow b 5 1 x n xs) (h22 : w.ownsRow b' 26 1 v n' ys) : x.ownBlock = none ∨ x.ownBlock ≠ v.ownBlock := by
  rcases h5.2 with ⟨rfl, _⟩ | ⟨g, cap, cur, rfl, _, hg, _⟩
  · exact .inl rfl
  · refine .inr fun e => ?_
    rcases h22.2 with ⟨rfl, _⟩ | ⟨g', cap', cur', rfl, _, hg', _⟩
    · cases e
    · have : g = g' := by simpa [Value.ownBlock] using e
      subst this
      rw [hg] at hg'
      injection hg' with hg'
      injection hg' with _ ht
      cases ht

/-- the bytes of a byte string, or none; and the error -/
def pbL (s : List Int) : List Int := if s.length ≤ 65536 then be s.length 3 4 ++ s else []
def pbE (s : List Int) : Int := if s.length ≤ 65536 then 0 else 2
/-- what a call returns that writes a byte string or a row -/
def PutBoth (w : World) (l : List Int) (E : Int) (e : Ending) (w' : World) : Prop :=
  ∃ v, e = .returned (.tuple #[v, .int .i64 E]) ∧ w'.ownsRow w.heap.size 5 1 v l.length (cellsOf l) ∧ Below w.heap.size w w'

set_option maxHeartbeats 400000 in
theorem putBytesO (A : Option Addr) (c : Nat) (l : List Int) (w : World) (hl : Lies w w.heap.size A c (cellsOf l)) (hl2 : l.length ≤ 65536) :
    Calls Tryd.prog 45 #[.slice A l.length c] w (PutBoth w (be l.length 3 4 ++ l) 0) := by
  obtain ⟨i0, hi, hz0, hz1, hz2⟩ := info_parts info5
  go_enter Tryd.func45, Tryd.ntmps45
  go_wp2_with (at_make; refine wpList_make_own _ rfl _ _ 26 rfl w.heap.size 5 i0 (.int .u8 0) 1 Tryd.underlying26 hi hz0 hz1 _ _ _ (4 + l.length) rfl rfl (by omega) (by rw [hz2]; omega) (by unfold maxLen; omega) (Nat.le_refl _) ?_; intro w1 ho1 hg1)
  have hs1 := hg1.size
  have hb1 : Below w.heap.size w w1 := (Below.refl _ _).grown hg1 (Nat.le_refl _) (fun k hk => by cases hk)
  refine (appendBytes _ 0 [] A c l _ w.heap.size ho1 (by omega) hs1 (hl.below hb1) hl2).mono ?_
  rintro e w2 ⟨v2, rfl, ho2, hb2⟩
  go_wp2
  go_ret2
  exact ⟨v2, rfl, own_eq ho2 (by simp [be_length]) (by simp [cellsOf]), hb1.trans hb2⟩
theorem putBytesB (A : Option Addr) (c : Nat) (s : List Int) (w : World) (hs1 : s.length ≤ c) (hs2 : c ≤ maxLen) (hl : Lies w w.heap.size A c (cellsOf s)) :
    Calls Tryd.prog 45 #[.slice A s.length c] w (PutBoth w (pbL s) (pbE s)) := by
  unfold pbL pbE
  by_cases h : s.length ≤ 65536
  · rw [if_pos h, if_pos h]
    exact putBytesO A c s w hl h
  · rw [if_neg h, if_neg h]
    refine (putBytes_long A s.length c w (by omega) (by omega)).mono fun e w' ⟨he, hw⟩ => ?_
    subst hw
    exact ⟨_, he, World.ownsRow_nil _ _ _ _, Below.refl _ _⟩

/-- the bytes of a row, or none; and the error -/
def prL (ls : List (List Int)) : List Int := if ls.length ≤ 1024 ∧ ∀ l ∈ ls, l.length ≤ 65536 then rowBytes ls else []
def prE (ls : List (List Int)) : Int := if ls.length ≤ 1024 ∧ ∀ l ∈ ls, l.length ≤ 65536 then 0 else 2

set_option maxHeartbeats 800000 in
theorem putRowO (A : Option Addr) (c : Nat) (ls : List (List Int)) (w : World) (hg : Grid w w.heap.size A c ls) (hn : ls.length ≤ 1024) (hgood : ∀ l ∈ ls, l.length ≤ 65536) :
    Calls Tryd.prog 26 #[.slice A ls.length c] w (PutBoth w (rowBytes ls) 0) := by
  have HF := Lib.hid (rowBytes_length ls)
  have HB := Lib.hid (szTo_le hgood)
  have HZ := Lib.hid (szTo_zero ls)
  have HG := Lib.hid hg
  have HO := Lib.hid hgood
  clear hg hgood
  have hfin := HB.out ls.length (Nat.le_refl _)
  obtain ⟨i0, hi, hz0, hz1, hz2⟩ := info_parts info5
  go_enter Tryd.func26, Tryd.ntmps26
  go_wp2
  go_loop [4, 15] (fun s i => ∃ k : Nat, k ≤ ls.length ∧ i = .int .i64 k ∧ s = .int .i64 (4 + (szTo ls k : Int))) (fun _ i => ls.length - (intOf i).toNat)
  case atStart => exact ⟨0, Nat.zero_le _, rfl, by rw [HZ.out]; rfl⟩
  case round =>
    obtain ⟨k, hk, rfl, rfl⟩ := hrel
    have hsz := HB.out k hk
    by_cases hkl : k < ls.length
    · obtain ⟨l, hl⟩ : ∃ l, ls[k]? = some l := ⟨_, List.getElem?_eq_getElem hkl⟩
      have hle := HO.out l (List.mem_of_getElem? hl)
      have HN := Lib.hid (szTo_next hl)
      obtain ⟨ad, A', c', rfl, hB, hc, h1, h2, h3⟩ := HG.out.2 k l hl
      unfold maxLen at h2
      clear hl
      go_wp2
      go_round
      case rel => exact ⟨k + 1, by omega, by go_num, by rw [HN.out]; go_num⟩
      case measure => simp [intOf]; omega
    · obtain rfl : k = ls.length := by omega
      go_wp2_with (at_make; refine wpList_make_own _ rfl _ _ 26 rfl w.heap.size 5 i0 (.int .u8 0) 1 Tryd.underlying26 hi hz0 hz1 _ _ _ (4 + szTo ls ls.length) rfl rfl (by omega) (by rw [hz2]; omega) (by unfold maxLen; omega) (Nat.le_refl _) ?_; intro w1 ho1 hg1)
      have hs1 := hg1.size
      have hb1 : Below w.heap.size w w1 := (Below.refl _ _).grown hg1 (Nat.le_refl _) (fun k hk => by cases hk)
      refine (appendInt32 _ 0 [] _ _ w.heap.size ho1 (by omega) hs1).mono ?_
      rintro e w2 ⟨v2, rfl, ho2, hb2⟩
      have hb := hb1.trans hb2
      clear hb1 hb2 ho1 hg1
      go_wp2
      go_loopw [7, 36] (fun v i wr => ∃ k : Nat, k ≤ ls.length ∧ i = .int .i64 k ∧ wr.ownsRow w.heap.size 5 1 v (4 + szTo ls k) (cellsOf (be ls.length 3 4 ++ bsTo ls k)) ∧ Below w.heap.size w wr) (fun _ i _ => ls.length - (intOf i).toNat)
      case atStart => exact ⟨0, Nat.zero_le _, rfl, by rw [HZ.out, bsTo_zero]; simpa using ho2, hb⟩
      case round =>
        clear hsz hk hkl hb ho2
        obtain ⟨k, hk, rfl, ho, hb⟩ := hrel
        have hsz := HB.out k hk
        have hs := hb.size
        by_cases hkl : k < ls.length
        · obtain ⟨l, hl⟩ : ∃ l, ls[k]? = some l := ⟨_, List.getElem?_eq_getElem hkl⟩
          have hle := HO.out l (List.mem_of_getElem? hl)
          have HN := Lib.hid (szTo_next hl)
          have HM := Lib.hid (bsTo_next hl)
          obtain ⟨ad, A', c', rfl, hB, hc0, h1, h2, h3⟩ := HG.out.2 k l hl
          have hc : wr.cell? (ad.add k) = some (.slice A' l.length c') := by rw [hb.cell (by rw [addr_block]; exact hB)]; exact hc0
          have h4 := h3.below hb
          clear hl h3 hc0
          go_wp2_with fail
          refine (appendBytes _ _ _ _ _ l _ w.heap.size ho (by omega) (by omega) h4 hle).mono ?_
          rintro e w3 ⟨v3, rfl, ho3, hb3⟩
          clear ho h4
          go_wp2
          go_roundw
          case rel => exact ⟨k + 1, by omega, by go_num, by rw [HN.out, HM.out]; simpa [Nat.add_assoc] using ho3, hb.trans hb3⟩
          case measure => simp [intOf]; omega
        · obtain rfl : k = ls.length := by omega
          go_wp2
          go_ret2
          exact ⟨_, rfl, own_eq ho (by rw [HF.out]) rfl, hb⟩
theorem putRowB (A : Option Addr) (c : Nat) (ls : List (List Int)) (w : World) (hl1 : ls.length ≤ c) (hl2 : c ≤ maxLen) (hg : Grid w w.heap.size A c ls) :
    Calls Tryd.prog 26 #[.slice A ls.length c] w (PutBoth w (prL ls) (prE ls)) := by
  unfold prL prE
  by_cases h : ls.length ≤ 1024 ∧ ∀ l ∈ ls, l.length ≤ 65536
  · rw [if_pos h, if_pos h]
    exact putRowO A c ls w hg h.1 h.2
  · rw [if_neg h, if_neg h]
    rcases Nat.lt_or_ge 1024 ls.length with h1 | h1
    · refine (putRow_long A ls.length c w (by omega) h1).mono fun e w' ⟨he, hw⟩ => ?_
      subst hw
      exact ⟨_, he, World.ownsRow_nil _ _ _ _, Below.refl _ _⟩
    · rcases bad_or_good ls with h2 | h2
      · refine (putRow_bad A c ls w hg h1 h2).mono fun e w' ⟨he, hw⟩ => ?_
        subst hw
        exact ⟨_, he, World.ownsRow_nil _ _ _ _, Below.refl _ _⟩
      · exact absurd ⟨h1, h2⟩ h
end Go.Proofs.YtecjkmemihmkcaaDoor
