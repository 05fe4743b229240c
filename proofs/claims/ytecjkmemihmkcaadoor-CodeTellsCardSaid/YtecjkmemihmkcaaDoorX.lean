/- What the document's own answers return of byte strings and rows: the same as the program's. Conditions: none beyond what a slice is. -/
import Derived.Test.YtecjkmemihmkcaaDoorV
namespace Go.Proofs.YtecjkmemihmkcaaDoor
set_option maxRecDepth 100000
open Go.RowKit

theorem be4' (n : Int) : be n 3 4 = [n / 16777216 % 256, n / 65536 % 256, n / 256 % 256, n % 256] := by
  simp [be, List.range_succ]

set_option maxHeartbeats 400000 in
theorem refFour (n : Int) (w : World) (h0 : 0 ≤ n) (h1 : n ≤ 65536) :
    Calls Tryd.prog 49 #[.int .i64 n] w fun e w' => ∃ v, e = .returned v ∧ w'.ownsRow w.heap.size 5 1 v 4 (cellsOf (be n 3 4)) ∧ Below w.heap.size w w' := by
  go_enter Tryd.func49, Tryd.ntmps49
  go_wp2
  go_ret
  refine ⟨_, rfl, ?_, (Below.refl _ _).alloc (Nat.le_refl _) _⟩
  rw [be4', show n / 16777216 % 256 = n / 16777216 by omega, show n / 65536 % 256 = n / 65536 by omega]
  exact World.ownsRow_lit (e := 5) (size := 1) (base := w.heap.size) w (cellsOf [n / 16777216, n / 65536, n / 256 % 256, n % 256]).toArray 4 (Nat.le_refl _) (by unfold maxLen; omega) rfl

set_option maxHeartbeats 400000 in
theorem refPutBytes (A : Option Addr) (c : Nat) (l : List Int) (w : World) (hl : Lies w w.heap.size A c (cellsOf l)) (hl2 : l.length ≤ 65536) :
    Calls Tryd.prog 28 #[.slice A l.length c] w (PutBoth w (be l.length 3 4 ++ l) 0) := by
  obtain ⟨i0, hi, hz0, hz1, hz2⟩ := info_parts info5
  go_enter Tryd.func28, Tryd.ntmps28
  go_wp2_with fail
  refine (refFour _ _ (by omega) (by omega)).mono ?_
  rintro e w1 ⟨v1, rfl, ho1, hb1⟩
  have hl1 := hl.below hb1
  have hz := hb1.size
  clear hl
  go_wp2_with (at_builtin; refine wpList_append_lies rfl (.tmp 9) (.tmp 10) 26 rfl w.heap.size 5 i0 (.int .u8 0) 1 Tryd.underlying26 hi hz0 hz1 hz2 rfl v1 _ _ rfl ho1 w.heap.size A l.length c (cellsOf l) rfl (by simp) hl1 (bytes_oneCell l) (by unfold maxLen; omega) (by omega) hz ?_; intro v2 w2 ho2 hg2)
  go_ret2
  exact ⟨v2, rfl, own_eq ho2 (by rw [List.length_append, be_length]) (by simp [cellsOf]), hb1.grown hg2 hz (fun k hk => (ho1.lt k hk).1)⟩
set_option maxHeartbeats 400000 in
theorem refPutBytes_long (A : Option Addr) (n c : Nat) (w : World) (h : 65536 < n) :
    Calls Tryd.prog 28 #[.slice A n c] w fun e w' => e = .returned (.tuple #[.slice none 0 0, .int .i64 2]) ∧ w = w' := by
  go_enter Tryd.func28, Tryd.ntmps28
  go_wp2
  go_ret2
  exact ⟨rfl, rfl⟩
theorem refPutBytesB (A : Option Addr) (c : Nat) (s : List Int) (w : World) (hl : Lies w w.heap.size A c (cellsOf s)) :
    Calls Tryd.prog 28 #[.slice A s.length c] w (PutBoth w (pbL s) (pbE s)) := by
  unfold pbL pbE
  by_cases h : s.length ≤ 65536
  · rw [if_pos h, if_pos h]
    exact refPutBytes A c s w hl h
  · rw [if_neg h, if_neg h]
    refine (refPutBytes_long A s.length c w (by omega)).mono fun e w' ⟨he, hw⟩ => ?_
    subst hw
    exact ⟨_, he, World.ownsRow_nil _ _ _ _, Below.refl _ _⟩

set_option maxHeartbeats 400000 in
theorem refPutRow_long (A : Option Addr) (n c : Nat) (w : World) (h : 1024 < n) :
    Calls Tryd.prog 29 #[.slice A n c] w fun e w' => e = .returned (.tuple #[.slice none 0 0, .int .i64 2]) ∧ w = w' := by
  go_enter Tryd.func29, Tryd.ntmps29
  go_wp2
  go_ret2
  exact ⟨rfl, rfl⟩

/-- how far 'PutRow' has come -/
def PutRel (w : World) (ls : List (List Int)) (k : Nat) (v : Value) (wr : World) : Prop :=
  wr.ownsRow w.heap.size 5 1 v (4 + szTo ls k) (cellsOf (be ls.length 3 4 ++ bsTo ls k)) ∧ Below w.heap.size w wr

set_option maxHeartbeats 800000 in
theorem refPutRow (A : Option Addr) (c : Nat) (ls : List (List Int)) (w : World) (hg : Grid w w.heap.size A c ls) (hn : ls.length ≤ 1024) (k0 : Nat) (hk0 : k0 ≤ ls.length) (hgood : ∀ k l, k < k0 → ls[k]? = some l → l.length ≤ 65536)
    (hend : k0 < ls.length → ∃ l, ls[k0]? = some l ∧ 65536 < l.length) :
    Calls Tryd.prog 29 #[.slice A ls.length c] w (PutBoth w (if k0 = ls.length then rowBytes ls else []) (if k0 = ls.length then 0 else 2)) := by
  have HF := Lib.hid (rowBytes_length ls)
  have HG := Lib.hid hg
  have HO := Lib.hid hgood
  have HEND := Lib.hid hend
  have HB : Hid (∀ k, k ≤ k0 → szTo ls k ≤ k * 65540) := by
    intro k
    induction k with
    | zero => intro _; simp [szTo]
    | succ k ih =>
      intro hk
      have hl : ls[k]? = some ls[k] := List.getElem?_eq_getElem (by omega)
      rw [szTo_next hl]
      have := ih (by omega)
      have := hgood k _ (by omega) hl
      omega
  clear hg hgood hend
  generalize hR : (if k0 = ls.length then rowBytes ls else []) = R
  generalize hE : (if k0 = ls.length then (0 : Int) else 2) = E
  have HR := Lib.hid hR
  have HE := Lib.hid hE
  clear hR hE
  obtain ⟨i0, hi, hz0, hz1, hz2⟩ := info_parts info5
  go_enter Tryd.func29, Tryd.ntmps29
  go_wp2_with fail
  refine (refFour _ _ (by omega) (by omega)).mono ?_
  rintro e w1 ⟨v1, rfl, ho1, hb1⟩
  have hst : PutRel w ls 0 v1 w1 := ⟨own_eq ho1 (by rw [szTo_zero]) (by rw [bsTo_zero, List.append_nil]), hb1⟩
  clear ho1 hb1
  go_wp2
  go_loopw [4, 5] (fun v i wr => ∃ k : Nat, k ≤ k0 ∧ i = .int .i64 k ∧ PutRel w ls k v wr) (fun _ i _ => ls.length - (intOf i).toNat)
  case atStart => exact ⟨0, Nat.zero_le _, rfl, hst⟩
  case round =>
    clear hst
    obtain ⟨k, hk, rfl, ho, hb⟩ := hrel
    have hsz := HB.out k hk
    have hs := hb.size
    by_cases hkl : k < ls.length
    · obtain ⟨l, hl⟩ : ∃ l, ls[k]? = some l := ⟨_, List.getElem?_eq_getElem hkl⟩
      obtain ⟨ad, A', c', rfl, hB, hc0, h1, h2, h3⟩ := HG.out.2 k l hl
      have hc : wr.cell? (ad.add k) = some (.slice A' l.length c') := by rw [hb.cell (by rw [addr_block]; exact hB)]; exact hc0
      have h4 := (h3.below hb).more hs
      by_cases hlt : k < k0
      · have hle := HO.out k l hlt hl
        have HN := Lib.hid (szTo_next hl)
        have HM := Lib.hid (bsTo_next hl)
        have K := Lib.hid (refPutBytes A' c' l wr h4 hle)
        clear hl h3 hc0 h4
        go_wp2_with fail
        refine K.out.mono ?_
        rintro e w3 ⟨v3, rfl, ho3, hb3⟩
        obtain ⟨A3, c3, rfl, _, _, l3⟩ := own_lies ho3
        have ho4 := own_below ho hb3 (Nat.le_refl _)
        have hb4 := hb.trans (hb3.mono hs)
        have hs4 := hb4.size
        have hlen : (be l.length 3 4 ++ l).length = 4 + l.length := by rw [List.length_append, be_length]
        rw [hlen]
        clear ho hb ho3 hb3 K hlen
        go_wp2_with (at_builtin; refine wpList_append_lies rfl (.tmp 31) (.tmp 32) 26 rfl w.heap.size 5 i0 (.int .u8 0) 1 Tryd.underlying26 hi hz0 hz1 hz2 rfl _ _ _ rfl ho4 w3.heap.size A3 (4 + l.length) c3 (cellsOf (be l.length 3 4 ++ l)) rfl (by rw [List.length_map, List.length_append, be_length]) l3 (bytes_oneCell _) (by unfold maxLen; omega) (by omega) hs4 ?_; intro v5 w5 ho5 hg5)
        have hst : PutRel w ls (k + 1) v5 w5 := ⟨own_eq ho5 (by rw [HN.out]; omega) (by rw [HM.out]; simp [cellsOf]), hb4.grown hg5 hs4 (fun k hk => (ho4.lt k hk).1)⟩
        clear ho5 hg5 ho4 l3
        go_wp2
        go_roundw
        case rel => exact ⟨k + 1, by omega, by go_num, hst⟩
        case measure => simp [intOf]; omega
      · obtain rfl : k = k0 := by omega
        obtain ⟨l', hl', hgt⟩ := HEND.out hkl
        rw [hl] at hl'
        injection hl' with hl'
        subst hl'
        have K := Lib.hid (refPutBytes_long A' l.length c' wr hgt)
        have hne : ¬ k = ls.length := by omega
        have hR := HR.out
        have hE := HE.out
        rw [if_neg hne] at hR hE
        subst hR hE
        clear hl h3 hc0 h4 hne
        go_wp2_with fail
        refine K.out.mono ?_
        rintro e w3 ⟨rfl, rfl⟩
        go_wp2
        go_ret2
        exact ⟨_, rfl, World.ownsRow_nil _ _ _ _, hb⟩
    · obtain rfl : k = k0 := by omega
      have he : k = ls.length := by omega
      have hR := HR.out
      have hE := HE.out
      rw [if_pos he] at hR hE
      subst hR hE
      have HK := Lib.hid he
      clear he
      go_wp2
      go_ret2
      exact ⟨_, rfl, own_eq ho (by rw [HF.out, HK.out]) (by rw [HK.out]; rfl), hb⟩

theorem refPutRowB (A : Option Addr) (c : Nat) (ls : List (List Int)) (w : World) (hg : Grid w w.heap.size A c ls) :
    Calls Tryd.prog 29 #[.slice A ls.length c] w (PutBoth w (prL ls) (prE ls)) := by
  unfold prL prE
  by_cases h : ls.length ≤ 1024 ∧ ∀ l ∈ ls, l.length ≤ 65536
  · rw [if_pos h, if_pos h]
    have := refPutRow A c ls w hg h.1 ls.length (Nat.le_refl _) (fun k l _ hl => h.2 l (List.mem_of_getElem? hl)) (fun hlt => absurd hlt (Nat.lt_irrefl _))
    rwa [if_pos rfl, if_pos rfl] at this
  · rw [if_neg h, if_neg h]
    rcases Nat.lt_or_ge 1024 ls.length with h1 | h1
    · refine (refPutRow_long A ls.length c w h1).mono fun e w' ⟨he, hw⟩ => ?_
      subst hw
      exact ⟨_, he, World.ownsRow_nil _ _ _ _, Below.refl _ _⟩
    · rcases bad_or_good ls with ⟨k, l, h2, h3, h4⟩ | h2
      · have hkl : k < ls.length := (List.getElem?_eq_some_iff.1 h2).1
        have := refPutRow A c ls w hg h1 k (by omega) (fun j l' hj hl' => h4 j l' hj hl') (fun _ => ⟨l, h2, h3⟩)
        rwa [if_neg (by omega), if_neg (by omega)] at this
      · exact absurd ⟨h1, h2⟩ h
end Go.Proofs.YtecjkmemihmkcaaDoor
