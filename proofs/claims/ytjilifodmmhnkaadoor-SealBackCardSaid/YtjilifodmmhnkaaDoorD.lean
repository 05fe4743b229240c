/- What the document's own 'Seal' and 'Open' return, in memory of the call's own. Conditions: none beyond what a slice is, and its reach. -/
import Derived.Test.YtjilifodmmhnkaaDoorC
namespace Go.Proofs.YtjilifodmmhnkaaDoor
open Go.RowKit

/-- a block just made, as a row of the call's own -/
theorem own_full (w : World) (l : List Int) (hm : l.length ≤ maxLen) : (w.alloc (.cells (cellsOf l).toArray 5)).ownsRow w.heap.size 5 1 (.slice (some ⟨w.heap.size, 0, none⟩) l.length l.length) l.length (cellsOf l) :=
  ⟨by simp, .inr ⟨w.heap.size, l.length, (cellsOf l).toArray, rfl, Nat.le_refl _, heap_alloc_new w _, Nat.le_refl _, hm, by simp, by rw [Nat.mul_one]; exact List.take_of_length_le (by simp)⟩⟩

set_option maxHeartbeats 400000 in
theorem refSealO (A : Option Addr) (l : List Int) (n c : Nat) (w : World) (hn : l.length = n) (hc : n ≤ c) (hcm : c ≤ maxLen) (hr : n ≤ 140737488351300) (hl : Lies w w.heap.size A c (cellsOf l)) (hy : Byt l) :
    Calls Tryd.prog 15 #[.slice A n c] w (OwnBytes w (four (crcI l) ++ l)) := by
  subst hn
  have HL := Lib.hid hl
  have HY := Lib.hid hy
  have hs := crcI_lt l
  obtain ⟨i0, hi, hz0, hz1, hz2⟩ := info_parts info5
  clear hl hy
  have HF : Hid (four (crcI l) = [(crcI l : Int) / 16777216, (crcI l : Int) / 65536 % 256, (crcI l : Int) / 256 % 256, (crcI l : Int) % 256]) := rfl
  have ho := own_full w [(crcI l : Int) / 16777216, (crcI l : Int) / 65536 % 256, (crcI l : Int) / 256 % 256, (crcI l : Int) % 256] (by unfold maxLen; simp)
  have hb := (Below.refl w.heap.size w).alloc (Nat.le_refl _) (.cells (cellsOf [(crcI l : Int) / 16777216, (crcI l : Int) / 65536 % 256, (crcI l : Int) / 256 % 256, (crcI l : Int) % 256]).toArray 5)
  simp only [cellsOf, List.map_cons, List.map_nil, List.length_cons, List.length_nil, Nat.zero_add, Nat.reduceAdd] at ho hb
  have HO := Lib.hid ho
  have HB := Lib.hid hb
  clear ho hb
  go_enter Tryd.func15, Tryd.ntmps15
  go_wp2_with fail
  refine (refSum A l c _ _ hc hcm HL.out HY.out).mono ?_
  rintro e w1 ⟨rfl, rfl⟩
  generalize crcI l = s at *
  go_wp2_with (at_builtin; refine wpList_append_lies rfl (.tmp 17) (.tmp 18) 22 rfl w.heap.size 5 i0 (.int .u8 0) 1 Tryd.underlying22 hi hz0 hz1 hz2 rfl _ _ _ rfl HO.out w.heap.size A l.length c (cellsOf l) rfl (by simp) (HL.out.below HB.out) (bytes_oneCell l) (by unfold maxLen; omega) (by omega) (by simp) ?_; intro v2 w2 ho2 hg2)
  go_ret
  exact ⟨v2, rfl, own_eq ho2 (by simp [four_length]) (by rw [HF.out]; simp [cellsOf]), HB.out.grown hg2 (by simp) (fun k hk => (HO.out.lt k hk).1)⟩

theorem four_eq {p : List Int} {s : Nat} {b0 b1 b2 b3 : Nat} (hp : p = [(b0 : Int), (b1 : Int), (b2 : Int), (b3 : Int)]) : p = four s ↔ (s : Int) / 16777216 = b0 ∧ (s : Int) / 65536 % 256 = b1 ∧ (s : Int) / 256 % 256 = b2 ∧ (s : Int) % 256 = b3 := by
  subst hp
  simp only [four, List.cons.injEq, and_true]
  constructor
  · rintro ⟨h0, h1, h2, h3⟩; exact ⟨h0.symm, h1.symm, h2.symm, h3.symm⟩
  · rintro ⟨h0, h1, h2, h3⟩; exact ⟨h0.symm, h1.symm, h2.symm, h3.symm⟩
theorem take4 {l : List Int} {b0 b1 b2 b3 : Int} (h0 : l[0]? = some b0) (h1 : l[1]? = some b1) (h2 : l[2]? = some b2) (h3 : l[3]? = some b3) : l.take 4 = [b0, b1, b2, b3] := by
  rw [take_next h3, take_next h2, take_next h1, take_next h0]
  simp

set_option maxHeartbeats 400000 in
theorem refOpen_short (A : Option Addr) (n c : Nat) (w : World) (h : n < 4) :
    Calls Tryd.prog 12 #[.slice A n c] w fun e w' => e = .returned (.tuple #[.slice none 0 0, .int .i64 11]) ∧ w = w' := by
  go_enter Tryd.func12, Tryd.ntmps12
  go_wp2
  go_ret2
  exact ⟨rfl, rfl⟩

set_option maxHeartbeats 1600000 in
theorem refOpen_q (ad : Addr) (m : List Int) (n c s : Nat) (w : World) (q : Bool) (b0 b1 b2 b3 : Nat) (hd : m.length = n - 4) (h4 : 4 ≤ n) (hc : n ≤ c) (hcm : c ≤ maxLen) (hr : n ≤ 140737488351300)
    (c0 : w.cell? ad = some (.int .u8 b0)) (c1 : w.cell? ⟨ad.block, ad.off + 1, none⟩ = some (.int .u8 b1)) (c2 : w.cell? ⟨ad.block, ad.off + 2, none⟩ = some (.int .u8 b2)) (c3 : w.cell? ⟨ad.block, ad.off + 3, none⟩ = some (.int .u8 b3)) (hs : s < 4294967296)
    (A' : Option Addr) (hA : A' = if c = 4 then some ad else some ⟨ad.block, ad.off + 4, none⟩) (HQ : Hid (Lies w w.heap.size A' (c - 4) (cellsOf m))) (K1 : Hid (Calls Tryd.prog 14 #[.slice A' (n - 4) (c - 4)] w fun e w' => e = .returned (.int .u32 s) ∧ w = w'))
    (hq : q = ((s : Int) / 16777216 == b0 && ((s : Int) / 65536 % 256 == b1 && ((s : Int) / 256 % 256 == b2 && (s : Int) % 256 == b3)))) :
    Calls Tryd.prog 12 #[.slice (some ad) n c] w (OpenQ w m q) := by
  have HM := Lib.hid hd
  clear hd
  obtain ⟨i0, hi, hz0, hz1, hz2⟩ := info_parts info5
  have ho := own_empty w
  have hb := (Below.refl w.heap.size w).alloc (Nat.le_refl _) (.cells #[] 5)
  have HO := Lib.hid ho
  have HB := Lib.hid hb
  clear ho hb
  have D : (q = true ∧ ((s : Int) / 16777216) = b0 ∧ ((s : Int) / 65536 % 256) = b1 ∧ ((s : Int) / 256 % 256) = b2 ∧ ((s : Int) % 256) = b3) ∨ (q = false ∧ (((s : Int) / 16777216) ≠ b0 ∨ (((s : Int) / 16777216) = b0 ∧ ((s : Int) / 65536 % 256) ≠ b1) ∨ (((s : Int) / 16777216) = b0 ∧ ((s : Int) / 65536 % 256) = b1 ∧ ((s : Int) / 256 % 256) ≠ b2) ∨ (((s : Int) / 16777216) = b0 ∧ ((s : Int) / 65536 % 256) = b1 ∧ ((s : Int) / 256 % 256) = b2 ∧ ((s : Int) % 256) ≠ b3))) := by
    subst hq
    by_cases x0 : ((s : Int) / 16777216) = b0
    · by_cases x1 : ((s : Int) / 65536 % 256) = b1
      · by_cases x2 : ((s : Int) / 256 % 256) = b2
        · by_cases x3 : ((s : Int) % 256) = b3
          · exact .inl ⟨by simp [x0, x1, x2, x3], x0, x1, x2, x3⟩
          · exact .inr ⟨by simp [x3], .inr (.inr (.inr ⟨x0, x1, x2, x3⟩))⟩
        · exact .inr ⟨by simp [x2], .inr (.inr (.inl ⟨x0, x1, x2⟩))⟩
      · exact .inr ⟨by simp [x1], .inr (.inl ⟨x0, x1⟩)⟩
    · exact .inr ⟨by simp [x0], .inl x0⟩
  clear hq
  by_cases h4c : c = 4
  · subst h4c
    obtain rfl : n = 4 := by omega
    rw [if_pos rfl] at hA
    subst hA
    simp only [Nat.sub_self] at K1 HQ HM
    have D := Lib.hid D
    go_enter Tryd.func12, Tryd.ntmps12
    go_wp2_with fail
    refine K1.out.mono ?_
    rintro e w1 ⟨rfl, rfl⟩
    have D := D.out
    rcases D with ⟨rfl, x0, x1, x2, x3⟩ | ⟨rfl, x0 | ⟨x0, x1⟩ | ⟨x0, x1, x2⟩ | ⟨x0, x1, x2, x3⟩⟩
    · have e0 : ((s : Int) / 16777216 != (b0 : Int)) = false := by simpa using x0
      have e1 : ((s : Int) / 65536 % 256 != (b1 : Int)) = false := by simpa using x1
      have e2 : ((s : Int) / 256 % 256 != (b2 : Int)) = false := by simpa using x2
      have e3 : ((s : Int) % 256 != (b3 : Int)) = false := by simpa using x3
      clear x0 x1 x2 x3
      go_wp2_with (at_builtin; refine wpList_append_lies rfl (.tmp 44) (.tmp 46) 22 rfl w.heap.size 5 i0 (.int .u8 0) 1 Tryd.underlying22 hi hz0 hz1 hz2 rfl _ _ _ rfl HO.out w.heap.size (some ad) 0 0 (cellsOf m) rfl (by simp [HM.out]) (HQ.out.below HB.out) (bytes_oneCell m) (by unfold maxLen; omega) (by omega) (by simp) ?_; intro v2 w2 ho2 hg2)
      go_ret2
      exact ⟨v2, rfl, own_eq ho2 (by simp [HM.out]) (by simp), HB.out.grown hg2 (by simp) (fun k hk => (HO.out.lt k hk).1)⟩
    · have e0 : ((s : Int) / 16777216 != (b0 : Int)) = true := by simpa using x0
      clear x0
      go_wp2
      go_ret2
      exact ⟨_, rfl, World.ownsRow_nil _ _ _ _, Below.refl _ _⟩
    · have e0 : ((s : Int) / 16777216 != (b0 : Int)) = false := by simpa using x0
      have e1 : ((s : Int) / 65536 % 256 != (b1 : Int)) = true := by simpa using x1
      clear x0 x1
      go_wp2
      go_ret2
      exact ⟨_, rfl, World.ownsRow_nil _ _ _ _, Below.refl _ _⟩
    · have e0 : ((s : Int) / 16777216 != (b0 : Int)) = false := by simpa using x0
      have e1 : ((s : Int) / 65536 % 256 != (b1 : Int)) = false := by simpa using x1
      have e2 : ((s : Int) / 256 % 256 != (b2 : Int)) = true := by simpa using x2
      clear x0 x1 x2
      go_wp2
      go_ret2
      exact ⟨_, rfl, World.ownsRow_nil _ _ _ _, Below.refl _ _⟩
    · have e0 : ((s : Int) / 16777216 != (b0 : Int)) = false := by simpa using x0
      have e1 : ((s : Int) / 65536 % 256 != (b1 : Int)) = false := by simpa using x1
      have e2 : ((s : Int) / 256 % 256 != (b2 : Int)) = false := by simpa using x2
      have e3 : ((s : Int) % 256 != (b3 : Int)) = true := by simpa using x3
      clear x0 x1 x2 x3
      go_wp2
      go_ret2
      exact ⟨_, rfl, World.ownsRow_nil _ _ _ _, Below.refl _ _⟩
  · have h4c' : 4 < c := by omega
    rw [if_neg h4c] at hA
    subst hA
    have D := Lib.hid D
    go_enter Tryd.func12, Tryd.ntmps12
    go_wp2_with fail
    refine K1.out.mono ?_
    rintro e w1 ⟨rfl, rfl⟩
    have D := D.out
    rcases D with ⟨rfl, x0, x1, x2, x3⟩ | ⟨rfl, x0 | ⟨x0, x1⟩ | ⟨x0, x1, x2⟩ | ⟨x0, x1, x2, x3⟩⟩
    · have e0 : ((s : Int) / 16777216 != (b0 : Int)) = false := by simpa using x0
      have e1 : ((s : Int) / 65536 % 256 != (b1 : Int)) = false := by simpa using x1
      have e2 : ((s : Int) / 256 % 256 != (b2 : Int)) = false := by simpa using x2
      have e3 : ((s : Int) % 256 != (b3 : Int)) = false := by simpa using x3
      clear x0 x1 x2 x3
      go_wp2_with (at_builtin; refine wpList_append_lies rfl (.tmp 44) (.tmp 46) 22 rfl w.heap.size 5 i0 (.int .u8 0) 1 Tryd.underlying22 hi hz0 hz1 hz2 rfl _ _ _ rfl HO.out w.heap.size (some ⟨ad.block, ad.off + 4, none⟩) (n - 4) (c - 4) (cellsOf m) rfl (by simp [HM.out]) (HQ.out.below HB.out) (bytes_oneCell m) (by unfold maxLen; omega) (by omega) (by simp) ?_; intro v2 w2 ho2 hg2)
      go_ret2
      exact ⟨v2, rfl, own_eq ho2 (by simp [HM.out]) (by simp), HB.out.grown hg2 (by simp) (fun k hk => (HO.out.lt k hk).1)⟩
    · have e0 : ((s : Int) / 16777216 != (b0 : Int)) = true := by simpa using x0
      clear x0
      go_wp2
      go_ret2
      exact ⟨_, rfl, World.ownsRow_nil _ _ _ _, Below.refl _ _⟩
    · have e0 : ((s : Int) / 16777216 != (b0 : Int)) = false := by simpa using x0
      have e1 : ((s : Int) / 65536 % 256 != (b1 : Int)) = true := by simpa using x1
      clear x0 x1
      go_wp2
      go_ret2
      exact ⟨_, rfl, World.ownsRow_nil _ _ _ _, Below.refl _ _⟩
    · have e0 : ((s : Int) / 16777216 != (b0 : Int)) = false := by simpa using x0
      have e1 : ((s : Int) / 65536 % 256 != (b1 : Int)) = false := by simpa using x1
      have e2 : ((s : Int) / 256 % 256 != (b2 : Int)) = true := by simpa using x2
      clear x0 x1 x2
      go_wp2
      go_ret2
      exact ⟨_, rfl, World.ownsRow_nil _ _ _ _, Below.refl _ _⟩
    · have e0 : ((s : Int) / 16777216 != (b0 : Int)) = false := by simpa using x0
      have e1 : ((s : Int) / 65536 % 256 != (b1 : Int)) = false := by simpa using x1
      have e2 : ((s : Int) / 256 % 256 != (b2 : Int)) = false := by simpa using x2
      have e3 : ((s : Int) % 256 != (b3 : Int)) = true := by simpa using x3
      clear x0 x1 x2 x3
      go_wp2
      go_ret2
      exact ⟨_, rfl, World.ownsRow_nil _ _ _ _, Below.refl _ _⟩

theorem refOpenO (A : Option Addr) (l : List Int) (n c : Nat) (w : World) (hn : l.length = n) (hc : n ≤ c) (hcm : c ≤ maxLen) (hr : n ≤ 140737488351300) (hl : Lies w w.heap.size A c (cellsOf l)) (hy : Byt l) :
    Calls Tryd.prog 12 #[.slice A n c] w (OpenO w (opL l) (opE l)) := by
  by_cases h4 : n < 4
  · have hE : opE l = 11 := by unfold opE; rw [if_pos (by omega)]
    have hL : opL l = [] := by unfold opL; rw [hE]; rfl
    rw [hE, hL]
    refine (refOpen_short A n c w h4).mono fun e w' ⟨he, hw⟩ => ?_
    subst hw
    exact ⟨_, he, World.ownsRow_nil _ _ _ _, Below.refl _ _⟩
  · obtain ⟨ad, b0, rfl, _, _, g0, c0⟩ := hl.byte hy (k := 0) (by omega)
    obtain ⟨ad1, b1, e1, _, _, g1, c1⟩ := hl.byte hy (k := 1) (by omega)
    obtain ⟨ad2, b2, e2, _, _, g2, c2⟩ := hl.byte hy (k := 2) (by omega)
    obtain ⟨ad3, b3, e3, _, _, g3, c3⟩ := hl.byte hy (k := 3) (by omega)
    injection e1 with e1; subst e1
    injection e2 with e2; subst e2
    injection e3 with e3; subst e3
    have hp := take4 g0 g1 g2 g3
    have hiff := four_eq (s := crcI (l.drop 4)) hp
    have hcut := hl.cut (p := 4) (by omega : l.length ≤ c)
    have hd : (l.drop 4).length = n - 4 := by simp [hn]
    have yd : Byt (l.drop 4) := hy.sub fun x hx => List.mem_of_mem_drop hx
    have hs := refSum _ (l.drop 4) (c - 4) w w.heap.size (by omega) (by omega) hcut yd
    rw [hd] at hs
    have c0' : w.cell? ad = some (.int .u8 b0) := c0
    have key := fun q => refOpen_q ad (l.drop 4) n c (crcI (l.drop 4)) w q b0 b1 b2 b3 hd (by omega) hc hcm hr c0' c1 c2 c3 (crcI_lt _) _ (by split <;> rfl) hcut hs
    by_cases h : l.take 4 = four (crcI (l.drop 4))
    · have hE : opE l = 0 := by unfold opE; rw [if_neg (by omega), if_pos h]
      have hL : opL l = l.drop 4 := by unfold opL; rw [if_pos hE]
      rw [hE, hL]
      have k := hiff.1 h
      exact key true (by simp [k.1, k.2.1, k.2.2.1, k.2.2.2])
    · have hE : opE l = 21 := by unfold opE; rw [if_neg (by omega), if_neg h]
      have hL : opL l = [] := by unfold opL; rw [hE]; rfl
      rw [hE, hL]
      refine key false ?_
      have k : ¬ _ := fun x => h (hiff.2 x)
      symm
      rw [Bool.eq_false_iff]
      intro x
      simp only [Bool.and_eq_true, beq_iff_eq] at x
      exact k x
end Go.Proofs.YtjilifodmmhnkaaDoor
