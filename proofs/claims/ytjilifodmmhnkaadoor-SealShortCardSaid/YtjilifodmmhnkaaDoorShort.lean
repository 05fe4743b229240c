/- The walk of SealShort: it returns true, and nothing that was there has changed. Conditions: none beyond what its arguments are, and their reach; the table of sixteen lies as the program lays it. -/
import Derived.Test.YtjilifodmmhnkaaDoorE
namespace Go.Proofs.YtjilifodmmhnkaaDoor
open Go.RowKit

theorem byt_one {x : Nat} (h : x < 256) : Byt [(x : Int)] := by intro b hb; simp at hb; omega
/-- five bytes of which the last is known -/
theorem seal_one {w : World} {base x : Nat} {v : Value} (h : w.ownsRow base 5 1 v (four (crcI [(x : Int)]) ++ [(x : Int)]).length (cellsOf (four (crcI [(x : Int)]) ++ [(x : Int)]))) :
    ∃ g c, v = .slice (some ⟨g, 0, none⟩) 5 c ∧ w.cell? ⟨g, 4, none⟩ = some (.int .u8 x) := by
  have h' := own_eq h (m := 5) (ys := cellsOf (four (crcI [(x : Int)]) ++ [(x : Int)])) (by simp [four_length]) rfl
  obtain ⟨A, c, rfl, h1, h2, h3⟩ := own_lies h'
  obtain ⟨g, rfl, _⟩ := own_addr h' (by omega)
  obtain ⟨ad, e, _, hc⟩ := h3.2 4 (.int .u8 x) (by simp [cellsOf, four])
  injection e with e
  subst e
  exact ⟨g, c, rfl, by simpa [Addr.add] using hc⟩
theorem crcI_nil : crcI [] = 0 := by decide +kernel
theorem opE_four {l : List Int} {b0 b1 b2 b3 : Nat} (hl : l.length = 4) (hp : l.take 4 = [(b0 : Int), (b1 : Int), (b2 : Int), (b3 : Int)]) : opE l = if b0 = 0 ∧ b1 = 0 ∧ b2 = 0 ∧ b3 = 0 then 0 else 21 := by
  unfold opE
  rw [if_neg (by omega), List.drop_of_length_le (by omega), crcI_nil, hp]
  have h4 : four 0 = [0, 0, 0, 0] := rfl
  rw [h4]
  by_cases h : b0 = 0 ∧ b1 = 0 ∧ b2 = 0 ∧ b3 = 0
  · rw [if_pos h]
    obtain ⟨rfl, rfl, rfl, rfl⟩ := h
    exact if_pos rfl
  · rw [if_neg h, if_neg]
    intro e
    simp only [List.cons.injEq, and_true] at e
    exact h ⟨by omega, by omega, by omega, by omega⟩

set_option maxHeartbeats 1600000 in
theorem short_walk (A : Option Addr) (l : List Int) (c x : Nat) (w : World) (hc : l.length ≤ c) (hcm : c ≤ maxLen) (hx : x < 256) (hl : Lies w w.heap.size A c (cellsOf l)) (hy : Byt l) (ht : Tab w) :
    Calls Tryd.prog 8 #[.slice A l.length c, .int .u8 x] w fun e w' => e = .returned (.bool true) ∧ Below w.heap.size w w' := by
  have HL := Lib.hid hl
  have HY := Lib.hid hy
  have HT := Lib.hid ht
  have hpos := ht.1
  have hcm' := hcm
  unfold maxLen at hcm
  clear hl hy ht
  go_enter Tryd.func8, Tryd.ntmps8
  go_wp2_with fail
  refine (head_true _ HT.out).mono ?_
  rintro e w1 ⟨rfl, hb1⟩
  have HL1 := Lib.hid (HL.out.below hb1)
  have s1 := hb1.size
  rcases Nat.lt_trichotomy l.length 4 with h4 | h4 | h4
  · go_wp2_with fail
    refine (open_short A l.length c _ h4).mono ?_
    rintro e w2 ⟨rfl, rfl⟩
    have hbX := hb1
    have h4' : ((l.length : Int) == 4) = false := by simp; omega
    have h4n : (l.length == 4) = false := by simp; omega
    have sal := hbX.alloc hbX.size (.cells (cellsOf [(x : Int)]).toArray 5)
    have slx := lies_new w1 [(x : Int)] 1 5 (0, 0)
    simp only [cellsOf, List.map_cons, List.map_nil] at sal slx
    have SAL := Lib.hid sal
    have SLX := Lib.hid slx
    clear sal slx
    go_wp2_with fail
    refine (sealO _ [(x : Int)] 1 1 _ rfl (by omega) (by unfold maxLen; omega) (by omega) (SLX.out.more (by simp)) (byt_one hx) (HT.out.below SAL.out hpos)).mono ?_
    rintro e w9 ⟨v9, rfl, ho9, hb9⟩
    have bw9 := SAL.out.trans (hb9.mono SAL.out.size)
    obtain ⟨g, c9, rfl, hc9⟩ := seal_one ho9
    clear ho9 hb9 SLX SAL
    go_wp2
    go_ret
    exact ⟨rfl, bw9⟩
  · have HK := Lib.hid (openO A l l.length c w1 rfl hc hcm' (by omega) (HL1.out.more s1) HY.out (HT.out.below hb1 hpos))
    obtain ⟨ad, b0, rfl, _, _, g0, c0⟩ := HL1.out.byte HY.out (k := 0) (by omega)
    obtain ⟨ad1, b1, e1, _, _, g1, c1⟩ := HL1.out.byte HY.out (k := 1) (by omega)
    obtain ⟨ad2, b2, e2, _, _, g2, c2⟩ := HL1.out.byte HY.out (k := 2) (by omega)
    obtain ⟨ad3, b3, e3, _, _, g3, c3⟩ := HL1.out.byte HY.out (k := 3) (by omega)
    injection e1 with e1; subst e1
    injection e2 with e2; subst e2
    injection e3 with e3; subst e3
    have hE := opE_four h4 (take4 g0 g1 g2 g3)
    rw [h4] at HK
    have H4 := Lib.hid h4
    have C0 := Lib.hid (show w1.cell? ad = some (.int .u8 b0) from c0)
    have C1 := Lib.hid (show w1.cell? ⟨ad.block, ad.off + 1, none⟩ = some (.int .u8 b1) from c1)
    have C2 := Lib.hid (show w1.cell? ⟨ad.block, ad.off + 2, none⟩ = some (.int .u8 b2) from c2)
    have C3 := Lib.hid (show w1.cell? ⟨ad.block, ad.off + 3, none⟩ = some (.int .u8 b3) from c3)
    have HE := Lib.hid hE
    clear g0 g1 g2 g3 c0 c1 c2 c3 hE
    rw [H4.out]
    rw [H4.out] at hc
    go_wp2_with fail
    refine HK.out.mono ?_
    rintro e w2 ⟨v2, rfl, _, hb2⟩
    have hbl : ad.block < w1.heap.size := World.block_lt_of_cell? w1 _ C0.out
    have c0 : w2.cell? ad = some (.int .u8 b0) := by rw [hb2.cell hbl]; exact C0.out
    have c1 : w2.cell? ⟨ad.block, ad.off + 1, none⟩ = some (.int .u8 b1) := by rw [hb2.cell (show (Addr.mk ad.block (ad.off + 1) none).block < _ from hbl)]; exact C1.out
    have c2 : w2.cell? ⟨ad.block, ad.off + 2, none⟩ = some (.int .u8 b2) := by rw [hb2.cell (show (Addr.mk ad.block (ad.off + 2) none).block < _ from hbl)]; exact C2.out
    have c3 : w2.cell? ⟨ad.block, ad.off + 3, none⟩ = some (.int .u8 b3) := by rw [hb2.cell (show (Addr.mk ad.block (ad.off + 3) none).block < _ from hbl)]; exact C3.out
    have hbX := hb1.trans (hb2.mono s1)
    clear hb2 hb1 HK
    have D : Hid ((b0 = 0 ∧ b1 = 0 ∧ b2 = 0 ∧ b3 = 0) ∨ (b0 ≠ 0) ∨ (b0 = 0 ∧ b1 ≠ 0) ∨ (b0 = 0 ∧ b1 = 0 ∧ b2 ≠ 0) ∨ (b0 = 0 ∧ b1 = 0 ∧ b2 = 0 ∧ b3 ≠ 0)) := by show _ ∨ _; omega
    rcases D.out with ⟨x0, x1, x2, x3⟩ | x0 | ⟨x0, x1⟩ | ⟨x0, x1, x2⟩ | ⟨x0, x1, x2, x3⟩
    · rw [HE.out, if_pos ⟨x0, x1, x2, x3⟩]
      subst x0
      subst x1
      subst x2
      subst x3
      have sal := hbX.alloc hbX.size (.cells (cellsOf [(x : Int)]).toArray 5)
      have slx := lies_new w2 [(x : Int)] 1 5 (0, 0)
      simp only [cellsOf, List.map_cons, List.map_nil] at sal slx
      have SAL := Lib.hid sal
      have SLX := Lib.hid slx
      clear sal slx
      go_wp2_with fail
      refine (sealO _ [(x : Int)] 1 1 _ rfl (by omega) (by unfold maxLen; omega) (by omega) (SLX.out.more (by simp)) (byt_one hx) (HT.out.below SAL.out hpos)).mono ?_
      rintro e w9 ⟨v9, rfl, ho9, hb9⟩
      have bw9 := SAL.out.trans (hb9.mono SAL.out.size)
      obtain ⟨g, c9, rfl, hc9⟩ := seal_one ho9
      clear ho9 hb9 SLX SAL
      go_wp2
      go_ret
      exact ⟨rfl, bw9⟩
    · rw [HE.out, if_neg (by omega)]
      have e0 : ((b0 : Int) == 0) = false := by simpa using x0
      have sal := hbX.alloc hbX.size (.cells (cellsOf [(x : Int)]).toArray 5)
      have slx := lies_new w2 [(x : Int)] 1 5 (0, 0)
      simp only [cellsOf, List.map_cons, List.map_nil] at sal slx
      have SAL := Lib.hid sal
      have SLX := Lib.hid slx
      clear sal slx
      go_wp2_with fail
      refine (sealO _ [(x : Int)] 1 1 _ rfl (by omega) (by unfold maxLen; omega) (by omega) (SLX.out.more (by simp)) (byt_one hx) (HT.out.below SAL.out hpos)).mono ?_
      rintro e w9 ⟨v9, rfl, ho9, hb9⟩
      have bw9 := SAL.out.trans (hb9.mono SAL.out.size)
      obtain ⟨g, c9, rfl, hc9⟩ := seal_one ho9
      clear ho9 hb9 SLX SAL
      go_wp2
      go_ret
      exact ⟨rfl, bw9⟩
    · rw [HE.out, if_neg (by omega)]
      subst x0
      have e1 : ((b1 : Int) == 0) = false := by simpa using x1
      have sal := hbX.alloc hbX.size (.cells (cellsOf [(x : Int)]).toArray 5)
      have slx := lies_new w2 [(x : Int)] 1 5 (0, 0)
      simp only [cellsOf, List.map_cons, List.map_nil] at sal slx
      have SAL := Lib.hid sal
      have SLX := Lib.hid slx
      clear sal slx
      go_wp2_with fail
      refine (sealO _ [(x : Int)] 1 1 _ rfl (by omega) (by unfold maxLen; omega) (by omega) (SLX.out.more (by simp)) (byt_one hx) (HT.out.below SAL.out hpos)).mono ?_
      rintro e w9 ⟨v9, rfl, ho9, hb9⟩
      have bw9 := SAL.out.trans (hb9.mono SAL.out.size)
      obtain ⟨g, c9, rfl, hc9⟩ := seal_one ho9
      clear ho9 hb9 SLX SAL
      go_wp2
      go_ret
      exact ⟨rfl, bw9⟩
    · rw [HE.out, if_neg (by omega)]
      subst x0
      subst x1
      have e2 : ((b2 : Int) == 0) = false := by simpa using x2
      have sal := hbX.alloc hbX.size (.cells (cellsOf [(x : Int)]).toArray 5)
      have slx := lies_new w2 [(x : Int)] 1 5 (0, 0)
      simp only [cellsOf, List.map_cons, List.map_nil] at sal slx
      have SAL := Lib.hid sal
      have SLX := Lib.hid slx
      clear sal slx
      go_wp2_with fail
      refine (sealO _ [(x : Int)] 1 1 _ rfl (by omega) (by unfold maxLen; omega) (by omega) (SLX.out.more (by simp)) (byt_one hx) (HT.out.below SAL.out hpos)).mono ?_
      rintro e w9 ⟨v9, rfl, ho9, hb9⟩
      have bw9 := SAL.out.trans (hb9.mono SAL.out.size)
      obtain ⟨g, c9, rfl, hc9⟩ := seal_one ho9
      clear ho9 hb9 SLX SAL
      go_wp2
      go_ret
      exact ⟨rfl, bw9⟩
    · rw [HE.out, if_neg (by omega)]
      subst x0
      subst x1
      subst x2
      have e3 : ((b3 : Int) == 0) = false := by simpa using x3
      have sal := hbX.alloc hbX.size (.cells (cellsOf [(x : Int)]).toArray 5)
      have slx := lies_new w2 [(x : Int)] 1 5 (0, 0)
      simp only [cellsOf, List.map_cons, List.map_nil] at sal slx
      have SAL := Lib.hid sal
      have SLX := Lib.hid slx
      clear sal slx
      go_wp2_with fail
      refine (sealO _ [(x : Int)] 1 1 _ rfl (by omega) (by unfold maxLen; omega) (by omega) (SLX.out.more (by simp)) (byt_one hx) (HT.out.below SAL.out hpos)).mono ?_
      rintro e w9 ⟨v9, rfl, ho9, hb9⟩
      have bw9 := SAL.out.trans (hb9.mono SAL.out.size)
      obtain ⟨g, c9, rfl, hc9⟩ := seal_one ho9
      clear ho9 hb9 SLX SAL
      go_wp2
      go_ret
      exact ⟨rfl, bw9⟩
  · have h4' : ((l.length : Int) == 4) = false := by simp; omega
    have h4n : (l.length == 4) = false := by simp; omega
    have hbX := hb1
    have sal := hbX.alloc hbX.size (.cells (cellsOf [(x : Int)]).toArray 5)
    have slx := lies_new w1 [(x : Int)] 1 5 (0, 0)
    simp only [cellsOf, List.map_cons, List.map_nil] at sal slx
    have SAL := Lib.hid sal
    have SLX := Lib.hid slx
    clear sal slx
    go_wp2_with fail
    refine (sealO _ [(x : Int)] 1 1 _ rfl (by omega) (by unfold maxLen; omega) (by omega) (SLX.out.more (by simp)) (byt_one hx) (HT.out.below SAL.out hpos)).mono ?_
    rintro e w9 ⟨v9, rfl, ho9, hb9⟩
    have bw9 := SAL.out.trans (hb9.mono SAL.out.size)
    obtain ⟨g, c9, rfl, hc9⟩ := seal_one ho9
    clear ho9 hb9 SLX SAL
    go_wp2
    go_ret
    exact ⟨rfl, bw9⟩
end Go.Proofs.YtjilifodmmhnkaaDoor
