/- The walk of CodeKept: it returns true, and nothing that was there has changed. Conditions: none beyond what its argument is; the table of signs lies as the program lays it. -/
import Derived.Test.YtecjkmemihmkcaaDoorZo
namespace Go.Proofs.YtecjkmemihmkcaaDoor
set_option maxRecDepth 100000
open Go.RowKit
set_option linter.unusedSimpArgs false
set_option linter.unusedVariables false

set_option maxHeartbeats 1600000 in
theorem kept_walk (A : Option Addr) (l : List Int) (c : Nat) (w : World) (hc : l.length ≤ c) (hcm : c ≤ maxLen) (hl : Lies w w.heap.size A c (cellsOf l)) (hby : Byt l) (ht : Tab w) :
    Calls Tryd.prog 5 #[.slice A l.length c] w (Says true w) := by
  have HY := Lib.hid hby
  have HK : Hid (∀ m q, getR l = .ok m q → mdB m = l ∧ okMd m = true) := fun m q h => get_kept hby h
  have K := Lib.hid (head_true w ht)
  have HL := Lib.hid hl
  clear ht hl hby
  go_enter Tryd.func5, Tryd.ntmps5
  go_wp2_with fail
  refine K.out.mono ?_
  clear K
  rintro e w1 ⟨rfl, hb1⟩
  have B1 := Lib.hid hb1
  have L1 := Lib.hid ((HL.out.below hb1).more hb1.size)
  have K := Lib.hid (get A l c w1 hc hcm L1.out HY.out)
  clear hb1
  go_wp2_with fail
  refine K.out.mono ?_
  clear K
  rintro e w2 ⟨hb2, ⟨m, q, V, hm, rfl, hV, hN⟩ | ⟨E, hE, hne, rfl⟩⟩
  · obtain ⟨hml, hok⟩ := HK.out m q hm
    have HV0 := Lib.hid hV
    obtain ⟨C, T, rfl, ⟨AC, cC, vs, rfl, k1, k2, _⟩, ⟨AT, cT, rfl, k3, k4, _⟩⟩ := hV
    have B2 := Lib.hid (B1.out.trans (hb2.mono B1.out.size))
    have L2 := Lib.hid ((L1.out.below hb2).more hb2.size)
    have HML := Lib.hid hml
    have HOK := Lib.hid hok
    have HNN := Lib.hid hN
    clear hb2 hm hml hok hN
    unfold maxLen at k2 k4
    go_upto_region 3 with fail
    have b3 := (Below.refl w2.heap.size w2).alloc (Nat.le_refl _) (.cells #[.slice AC m.codes.length cC, .slice AT m.texts.length cT] 25)
    have B3 := Lib.hid (B2.out.trans (b3.mono B2.out.size))
    have L3 := Lib.hid ((L2.out.below b3).more b3.size)
    have V3 := Lib.hid ((HV0.out.below b3).more b3.size)
    have HQ : Hid ((w2.alloc (.cells #[.slice AC m.codes.length cC, .slice AT m.texts.length cT] 25)).heap[w2.heap.size]? = some (.cells #[.slice AC m.codes.length cC, .slice AT m.texts.length cT] 25)) := Lib.hid (heap_alloc_new w2 _)
    clear b3
    generalize w2.alloc (.cells #[.slice AC m.codes.length cC, .slice AT m.texts.length cT] 25) = w3 at *
    have K := Lib.hid (put m _ w3 V3.out HNN.out)
    have HR := Lib.hid (range_of (cs := [.slice AC m.codes.length cC, .slice AT m.texts.length cT]) HQ.out)
    go_wp2_with (first | (refine wpList_load_mid rfl 25 (.tmp 4) rfl w2.heap.size 0 rfl [.slice AC m.codes.length cC, .slice AT m.texts.length cT] _ HR.out Tryd.underlying25 rfl info25s ?_; refine Hid.out ?_) | fail)
    refine Lib.hid ?_
    go_wp2_with fail
    refine K.out.mono ?_
    clear K
    rintro e w4 ⟨hb4, ⟨_, A4, c4, rfl, j1, j2, j3, _⟩ | ⟨hno, _⟩⟩
    · have B4 := Lib.hid (B3.out.trans (hb4.mono B3.out.size))
      have L4 := (L3.out.below hb4).more hb4.size
      have cv1 := run_string_lies (P := Tryd.prog) w4 26 9 5 Tryd.underlying26 Tryd.underlying5 Tryd.underlying9 w4.heap.size A4 (mdB m).length c4 (mdB m) rfl j3
      have cv2 := run_string_lies (P := Tryd.prog) w4 26 9 5 Tryd.underlying26 Tryd.underlying5 Tryd.underlying9 w4.heap.size A l.length c l rfl L4
      rw [HML.out] at cv1 j1 ⊢
      have hq4 : w4.heap[w2.heap.size]? = some (.cells #[.slice AC m.codes.length cC, .slice AT m.texts.length cT] 25) := by rw [hb4.block _ (lt_of_some HQ.out)]; exact HQ.out
      have HR4 := Lib.hid (range_of (cs := [.slice AC m.codes.length cC, .slice AT m.texts.length cT]) hq4)
      have c0 : w4.cell? ⟨w2.heap.size, 0, none⟩ = some (.slice AC m.codes.length cC) := by rw [cell_of_row _ _ _ _ _ _ hq4]; rfl
      have c1 : w4.cell? ⟨w2.heap.size, 1, none⟩ = some (.slice AT m.texts.length cT) := by rw [cell_of_row _ _ _ _ _ _ hq4]; rfl
      have K := Lib.hid (right m _ w4 ((V3.out.below hb4).more hb4.size))
      rw [HOK.out] at K
      generalize strOfNums l = sl at *
      clear hb4 j3 L4 hq4
      go_wp2_with fail
      refine K.out.mono ?_
      clear K
      rintro e w5 ⟨rfl, hb5⟩
      have B5 := Lib.hid (B4.out.trans (hb5.mono B4.out.size))
      clear hb5 c0 c1
      go_wp2
      go_ret
      exact ⟨rfl, B5.out⟩
    · rw [HOK.out] at hno
      cases hno
  · have B2 := Lib.hid ((B1.out.trans (hb2.mono B1.out.size)).alloc (by have := B1.out.size; have := hb2.size; omega) (.cells #[.slice none 0 0, .slice none 0 0] 25))
    have hne2 : (E != 0) = true := by simpa using hne
    clear hb2 hE
    go_wp2
    go_ret
    exact ⟨rfl, B2.out⟩

end Go.Proofs.YtecjkmemihmkcaaDoor
