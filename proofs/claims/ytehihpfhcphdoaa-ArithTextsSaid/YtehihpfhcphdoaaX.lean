/- What joins two texts returns ('slices.Grow', 'slices.Concat', 'joined'), and 'Two' of two texts with '+'. Conditions: none beyond what a slice is. -/
import Derived.Test.YtehihpfhcphdoaaH
import Derived.Lib.AppendZeros
namespace Go.Proofs.Ytehihpfhcphdoaa
open Go.RowKit
set_option maxRecDepth 100000

/-- the slice of byte strings at A, of capacity c, reads as ls, all of it below B -/
def Grid (w : World) (B : Nat) (A : Option Addr) (c : Nat) (ls : List (List Int)) : Prop :=
  (A = none → c = 0) ∧ ∀ i l, ls[i]? = some l → ∃ ad A' c', A = some ad ∧ ad.block < B ∧ w.cell? (ad.add i) = some (.slice A' l.length c') ∧ l.length ≤ c' ∧ c' ≤ maxLen ∧ Lies w B A' c' (cellsOf l)

theorem Grid.nothing (w : World) (B : Nat) : Grid w B none 0 [] := ⟨fun _ => rfl, fun j u h => by simp at h⟩
theorem Grid.below {w w' : World} {B : Nat} {A : Option Addr} {c : Nat} {ls : List (List Int)} (h : Grid w B A c ls) (hb : Below B w w') : Grid w' B A c ls :=
  ⟨h.1, fun i l hl => by
    obtain ⟨ad, A', c', e, hB, hc, h1, h2, h3⟩ := h.2 i l hl
    exact ⟨ad, A', c', e, hB, by rw [hb.cell (by rw [addr_block]; exact hB)]; exact hc, h1, h2, h3.below hb⟩⟩
theorem Grid.more {w : World} {B B' : Nat} {A : Option Addr} {c : Nat} {ls : List (List Int)} (h : Grid w B A c ls) (hB : B ≤ B') : Grid w B' A c ls :=
  ⟨h.1, fun i l hl => by
    obtain ⟨ad, A', c', e, hb, hc, h1, h2, h3⟩ := h.2 i l hl
    exact ⟨ad, A', c', e, by omega, hc, h1, h2, h3.more hB⟩⟩


/-- how long the first k are together, and what they are -/
def lenTo (ls : List (List Int)) (k : Nat) : Nat := ((ls.take k).map List.length).sum
def catTo (ls : List (List Int)) (k : Nat) : List Int := (ls.take k).flatten
theorem take_next {α : Type} {ls : List α} {k : Nat} {l : α} (h : ls[k]? = some l) : ls.take (k + 1) = ls.take k ++ [l] := by
  rw [List.take_add_one, h]; rfl
theorem lenTo_next {ls : List (List Int)} {k : Nat} {l : List Int} (h : ls[k]? = some l) : lenTo ls (k + 1) = lenTo ls k + l.length := by
  simp [lenTo, take_next h]
theorem catTo_next {ls : List (List Int)} {k : Nat} {l : List Int} (h : ls[k]? = some l) : catTo ls (k + 1) = catTo ls k ++ l := by
  simp [catTo, take_next h]
theorem lenTo_le {ls : List (List Int)} (k : Nat) : lenTo ls k ≤ lenTo ls ls.length := by
  unfold lenTo
  rw [List.take_length]
  conv => rhs; rw [← List.take_append_drop k ls]
  rw [List.map_append, List.sum_append]
  omega
theorem own_eq {w : World} {base : Nat} {e : TypeId} {v : Value} {n m : Nat} {xs ys : List Value} (h : w.ownsRow base e 1 v n xs) (hn : n = m) (hx : xs = ys) : w.ownsRow base e 1 v m ys := by
  subst hn hx
  exact h

set_option maxHeartbeats 800000 in
theorem growC (n : Nat) (hn : n ≤ 256) (w : World) : Calls Try.prog 47 #[.slice none 0 0, .int .i64 n] w fun e w' => ∃ v, e = .returned v ∧ w'.ownsRow w.heap.size 5 1 v 0 [] ∧ Below w.heap.size w w' := by
  obtain ⟨i0, hi, hz0, hz1, hz2⟩ := info_parts info5
  by_cases h0 : n = 0
  · subst h0
    go_enter Try.func47, Try.ntmps47
    go_wp2
    go_ret
    exact ⟨_, rfl, World.ownsRow_nil _ _ _ _, Below.refl _ _⟩
  · have hr := fun ty => Lib.run_append_nil_zeros (P := Try.prog) w 24 3 ty 5 i0 (.int .u8 0) .i64 .i64 Try.underlying24 Try.underlying3 hi hz0 n (by omega) (by rw [show i0.size = 1 from hz1]; omega) (by omega) (by rw [show i0.bytes = 1 from hz2]; omega)
    have hc1 := grownCap_ge w n 0 5
    have hc2 := grownCap_le_maxLen w n 0 5 (by unfold maxLen; omega)
    generalize hcap : grownCap w n 0 5 = cap at *
    have hsz : (Builtin.zeroCells (Value.int .u8 0).cells n ++ Builtin.zeroCells (Value.int .u8 0).cells (cap - n)).size = cap := by
      simp [Builtin.zeroCells, Value.cells]; omega
    generalize Builtin.zeroCells (Value.int .u8 0).cells n ++ Builtin.zeroCells (Value.int .u8 0).cells (cap - n) = C at *
    have hpos : 0 < n := by omega
    have hc3 := hc2
    unfold maxLen at hc3
    have HO := Lib.hid (World.ownsRow_made (base := w.heap.size) (e := 5) (size := 1) w.drew C cap (Nat.le_refl _) hc2 (by rw [hsz]; simp))
    have HR := Lib.hid hr
    clear hr hsz h0 hi hz0 hz1 hz2 hcap hc2
    go_enter Try.func47, Try.ntmps47
    go_wp2_with (at_builtin; refine Lib.wpList_append_run _ rfl (.tmp 20) (.tmp 21) 24 3 rfl _ _ rfl rfl _ _ (HR.out _) ?_)
    go_ret
    exact ⟨_, rfl, HO.out, ((Below.refl _ _).drew).alloc (Nat.le_refl _) _⟩

set_option maxHeartbeats 800000 in
theorem concatC (A : Option Addr) (c : Nat) (ls : List (List Int)) (n : Nat) (w : World) (hn : ls.length = n) (hg : Grid w w.heap.size A c ls) (hn2 : n ≤ 2) (hc : n ≤ c) (hlen : lenTo ls n ≤ 256) :
    Calls Try.prog 40 #[.slice A n c] w fun e w' => ∃ v, e = .returned v ∧ w'.ownsRow w.heap.size 5 1 v (lenTo ls n) (cellsOf (catTo ls n)) ∧ Below w.heap.size w w' := by
  have HB : Hid (∀ k, lenTo ls k ≤ 256) := fun k => by have := lenTo_le (ls := ls) k; rw [hn] at this; omega
  have HZ : Hid (lenTo ls 0 = 0 ∧ catTo ls 0 = []) := ⟨by simp [lenTo], by simp [catTo]⟩
  have HG := Lib.hid hg
  have HN := Lib.hid hn
  clear hg hlen hn
  obtain ⟨i0, hi, hz0, hz1, hz2⟩ := info_parts info5
  go_enter Try.func40, Try.ntmps40
  go_wp2
  go_loop [3, 11] (fun s i => ∃ k : Nat, k ≤ n ∧ i = .int .i64 k ∧ s = .int .i64 (lenTo ls k)) (fun _ i => n - (intOf i).toNat)
  case atStart => exact ⟨0, Nat.zero_le _, rfl, by rw [HZ.out.1]; rfl⟩
  case round =>
    obtain ⟨k, hk, rfl, rfl⟩ := hrel
    have hsz := HB.out k
    by_cases hkl : k < n
    · obtain ⟨l, hl⟩ : ∃ l, ls[k]? = some l := ⟨_, List.getElem?_eq_getElem (by have := HN.out; omega)⟩
      have HX := Lib.hid (lenTo_next hl)
      have hsz2 : lenTo ls k + l.length ≤ 256 := by have := HB.out (k + 1); rw [HX.out] at this; exact this
      obtain ⟨ad, A', c', rfl, hB, hc, h1, h2, h3⟩ := HG.out.2 k l hl
      unfold maxLen at h2
      clear hl h3
      go_wp2
      go_round
      case rel => exact ⟨k + 1, by omega, by go_num, by rw [HX.out]; go_num⟩
      case measure => simp [intOf]; omega
    · obtain rfl : k = n := by omega
      go_wp2_with fail
      refine (growC _ hsz _).mono ?_
      rintro e w1 ⟨v1, rfl, ho1, hb1⟩
      have HO1 := Lib.hid ho1
      clear ho1
      go_wp2
      go_loopw [6, 27] (fun v i wr => ∃ j : Nat, j ≤ k ∧ i = .int .i64 j ∧ wr.ownsRow w.heap.size 5 1 v (lenTo ls j) (cellsOf (catTo ls j)) ∧ Below w.heap.size w wr) (fun _ i _ => k - (intOf i).toNat)
      case atStart => exact ⟨0, Nat.zero_le _, rfl, own_eq HO1.out HZ.out.1.symm (by rw [HZ.out.2]; rfl), hb1⟩
      case round =>
        clear hsz hk hkl hb1 HO1
        obtain ⟨j, hj, rfl, ho, hb⟩ := hrel
        have hs := hb.size
        by_cases hkl : j < k
        · obtain ⟨l, hl⟩ : ∃ l, ls[j]? = some l := ⟨_, List.getElem?_eq_getElem (by have := HN.out; omega)⟩
          have HX := Lib.hid (lenTo_next hl)
          have HY := Lib.hid (catTo_next hl)
          have hsz2 : lenTo ls j + l.length ≤ 256 := by have := HB.out (j + 1); rw [HX.out] at this; exact this
          obtain ⟨ad, A', c', rfl, hB, hc0, h1, h2, h3⟩ := HG.out.2 j l hl
          have hc : wr.cell? (ad.add j) = some (.slice A' l.length c') := by rw [hb.cell (by rw [addr_block]; exact hB)]; exact hc0
          have h4 := h3.below hb
          clear hl h3 hc0
          go_wp2_with (at_builtin; refine wpList_append_lies rfl (.tmp 31) (.tmp 32) 24 rfl w.heap.size 5 i0 (.int .u8 0) 1 Try.underlying24 hi hz0 hz1 hz2 rfl _ _ _ rfl ho w.heap.size A' l.length c' (cellsOf l) rfl (by simp) h4 (bytes_oneCell l) (by unfold maxLen; omega) (by omega) hs ?_; intro v2 w2 ho2 hg2)
          go_roundw
          case rel => exact ⟨j + 1, by omega, by go_num, own_eq ho2 HX.out.symm (by rw [HY.out]; simp [cellsOf]), hb.grown hg2 hs (fun q hq => (ho.lt q hq).1)⟩
          case measure => simp [intOf]; omega
        · obtain rfl : j = k := by omega
          go_wp2
          go_ret
          exact ⟨_, rfl, ho, hb⟩
end Go.Proofs.Ytehihpfhcphdoaa
