/- The walk of CodeSizes: it returns true, and nothing that was there has changed. Conditions: none beyond what its argument is; the table of signs lies as the program lays it. -/
import Derived.Test.YtecjkmemihmkcaaDoorZq
namespace Go.Proofs.YtecjkmemihmkcaaDoor
set_option maxRecDepth 100000
open Go.RowKit
set_option linter.unusedSimpArgs false
set_option linter.unusedVariables false

/-- a module in a box of the call's own, and what else stays -/
structure Bx (w : World) (C T : Value) (w' : World) : Prop where
  low : Below w.heap.size w w'
  box : w'.heap[w.heap.size]? = some (.cells #[C, T] 25 (0, 0))
theorem Bx.on {w w' w'' : World} {C T : Value} (h : Bx w C T w') (hb : Below w'.heap.size w' w'') : Bx w C T w'' := ⟨h.low.trans (hb.mono h.low.size), by rw [hb.block _ (lt_of_some h.box)]; exact h.box⟩
theorem Bx.start (w : World) (C T : Value) : Bx w C T (w.alloc (.cells #[C, T] 25)) := ⟨(Below.refl _ _).alloc (Nat.le_refl _) _, heap_alloc_new w _⟩
theorem Bx.cells {w w' : World} {C T : Value} (h : Bx w C T w') : w'.cell? ⟨w.heap.size, 0, none⟩ = some C ∧ w'.cell? ⟨w.heap.size, 1, none⟩ = some T := ⟨by rw [cell_of_row _ _ _ _ _ _ h.box]; rfl, by rw [cell_of_row _ _ _ _ _ _ h.box]; rfl⟩
theorem Bx.range {w w' : World} {C T : Value} (h : Bx w C T w') : w'.rangeAt w.heap.size 0 [C, T] := range_of (cs := [C, T]) h.box
theorem Bx.mod {w w' : World} {C T V : Value} {m : Md} (h : Bx w C T w') (hm : ModV w w.heap.size m V) : ModV w' w'.heap.size m V := (hm.below h.low).more h.low.size

set_option maxHeartbeats 1600000 in
theorem sizes_walk (m : Md) (V : Value) (w : World) (h : ModV w w.heap.size m V) (hn : ∀ c ∈ m.codes, Byt c.name) (ht : Tab w) : Calls Tryd.prog 8 #[V] w (Says true w) := by
  have HM := Lib.hid h
  have HNM := Lib.hid hn
  have HT := Lib.hid ht
  have h0 := ht.1
  obtain ⟨C, T, rfl, hC, hT⟩ := h
  obtain ⟨AC, cC, vs, rfl, p1, p2, p3, p4⟩ := hC
  obtain ⟨AT, cT, rfl, q1, q2, q3⟩ := hT
  have HL := Lib.hid p3
  have HS := Lib.hid p4
  have HG := Lib.hid q3
  have HLN := Lib.hid (mdB_len m)
  clear p3 p4 q3 hn ht
  unfold maxLen at p2 q2
  have X0 := Lib.hid (Bx.start w (.slice AC m.codes.length cC) (.slice AT m.texts.length cT))
  have K := Lib.hid (head_true _ (HT.out.below X0.out.low h0))
  go_enter Tryd.func8, Tryd.ntmps8
  go_wp2_with fail
  refine K.out.mono ?_
  clear K
  rintro e w1 ⟨rfl, hb1⟩
  have X1 := Lib.hid (X0.out.on hb1)
  have R1 := Lib.hid X1.out.range
  have K := Lib.hid (great m _ w1 (X1.out.mod HM.out))
  clear hb1
  go_wp2_with (first | (refine wpList_load_mid rfl 25 (.tmp 1) rfl w.heap.size 0 rfl [.slice AC m.codes.length cC, .slice AT m.texts.length cT] _ R1.out Tryd.underlying25 rfl info25s ?_; refine Hid.out ?_) | fail)
  refine Lib.hid ?_
  go_wp2_with fail
  refine K.out.mono ?_
  clear K
  rintro e w2 ⟨b, rfl, hb2⟩
  have X2 := Lib.hid (X1.out.on hb2)
  clear hb2
  cases b with
  | true =>
    go_wp2
    go_ret
    exact ⟨rfl, X2.out.low⟩
  | false =>
    have R2 := Lib.hid X2.out.range
    have K := Lib.hid (put m _ w2 (X2.out.mod HM.out) HNM.out)
    go_wp2_with (first | (refine wpList_load_mid rfl 25 (.tmp 1) rfl w.heap.size 0 rfl [.slice AC m.codes.length cC, .slice AT m.texts.length cT] _ R2.out Tryd.underlying25 rfl info25s ?_; refine Hid.out ?_) | fail)
    refine Lib.hid ?_
    go_wp2_with fail
    refine K.out.mono ?_
    clear K
    rintro e w3 ⟨hb3, ⟨hok, A3, c3, rfl, j1, j2, _⟩ | ⟨hno, rfl⟩⟩
    · have X3 := Lib.hid (X2.out.on hb3)
      obtain ⟨k1, k2, k3, _⟩ := okMd_is hok
      have HO := Lib.hid (List.all_eq_true.1 k3)
      have HX := Lib.hid (okTexts hok)
      have HZ := Lib.hid (cdsN_le HO.out)
      have HZT := Lib.hid (szX_le HX.out)
      obtain ⟨c0, c1⟩ := X3.out.cells
      have hzall := HZ.out m.codes.length (Nat.le_refl _)
      have hztall := HZT.out m.texts.length (Nat.le_refl _)
      rw [List.take_length] at hzall
      have HML : Hid (((mdB m).length : Int) = 12 + (cdsN m.codes : Int) + (szTo m.texts m.texts.length : Int)) := Lib.hid (by rw [HLN.out]; omega)
      generalize (mdB m).length = L at *
      clear hb3 hok k3 j2
      go_wp2_with fail
      go_loopw [6, 7] (fun n i wr => ∃ k : Nat, i = .int .i64 k ∧ n = .int .i64 (12 + (cdsN (m.codes.take k) : Int)) ∧ k ≤ m.codes.length ∧ Bx w (.slice AC m.codes.length cC) (.slice AT m.texts.length cT) wr) (fun _ i _ => m.codes.length - (intOf i).toNat)
      case atStart => exact ⟨0, rfl, by simp [cdsN], Nat.zero_le _, X3.out⟩
      case round =>
        clear c0 c1
        obtain ⟨k, rfl, rfl, hk, hx⟩ := hrel
        have XR := Lib.hid hx
        obtain ⟨c0, c1⟩ := hx.cells
        have hzk := HZ.out k hk
        clear hx
        by_cases hkl : k < m.codes.length
        · obtain ⟨x, hx⟩ : ∃ x, m.codes[k]? = some x := ⟨_, List.getElem?_eq_getElem hkl⟩
          obtain ⟨P, I, hP, hI, hget⟩ := HS.out.get hx
          obtain ⟨AP, cP, rfl, r1, r2, _⟩ := hP
          obtain ⟨AI, cI, rfl, s1, s2, _⟩ := hI
          obtain ⟨b, o, rfl, hB, hcc⟩ := lies_flat HL.out (hget 0 _ rfl)
          obtain ⟨g1, g2, g3, _⟩ := okCd_is (HO.out x (List.mem_of_getElem? hx))
          have HXN := Lib.hid (cdsN_next hx)
          unfold maxLen at r2 s2
          have e0 : wr.cell? ⟨b, o + k * 5, none⟩ = some (.string (strOfNums x.name)) := by rw [XR.out.low.cell hB]; exact hcc _ _ (hget 0 _ rfl)
          have e1 : wr.cell? ⟨b, o + k * 5 + 1, none⟩ = some (.slice AP x.params.length cP) := by rw [XR.out.low.cell hB, Nat.add_assoc]; exact hcc _ _ (hget 1 _ rfl)
          have e4 : wr.cell? ⟨b, o + k * 5 + 4, none⟩ = some (.slice AI x.instrs.length cI) := by rw [XR.out.low.cell hB, Nat.add_assoc]; exact hcc _ _ (hget 4 _ rfl)
          have hsz : (strOfNums x.name).size = x.name.length := strOfNums_size _
          clear hx hget hcc
          generalize strOfNums x.name = nm at *
          go_upto_region 11 with fail
          go_quiet (fail)
          have XN := Lib.hid (XR.out.on (below_drewN (Below.refl _ _) nq))
          go_wp2
          go_roundw
          case rel => exact ⟨k + 1, by go_num, by rw [HXN.out]; unfold cdN; go_num, by omega, XN.out⟩
          case measure => simp [intOf]; omega
        · obtain rfl : k = m.codes.length := by omega
          rw [List.take_length]
          go_wp2_with fail
          go_loopw [6, 8] (fun n i wr => ∃ k : Nat, i = .int .i64 k ∧ n = .int .i64 (12 + (cdsN m.codes : Int) + (szTo m.texts k : Int)) ∧ k ≤ m.texts.length ∧ Bx w (.slice AC m.codes.length cC) (.slice AT m.texts.length cT) wr) (fun _ i _ => m.texts.length - (intOf i).toNat)
          case atStart => exact ⟨0, rfl, by rw [szTo_zero]; go_num, Nat.zero_le _, XR.out⟩
          case round =>
            clear c0 c1 XR hzk
            obtain ⟨k, rfl, rfl, hk, hx⟩ := hrel
            have XR := Lib.hid hx
            obtain ⟨c0, c1⟩ := hx.cells
            have hzt := HZT.out k hk
            clear hx
            by_cases hkl2 : k < m.texts.length
            · obtain ⟨x, hx⟩ : ∃ x, m.texts[k]? = some x := ⟨_, List.getElem?_eq_getElem hkl2⟩
              have hxl := HX.out x (List.mem_of_getElem? hx)
              have HXN := Lib.hid (szTo_next hx)
              obtain ⟨ad, A', c', rfl, hB, hc0, g1, g2, _⟩ := HG.out.2 k x hx
              have e0 : wr.cell? (ad.add k) = some (.slice A' x.length c') := by rw [XR.out.low.cell (by rw [addr_block]; exact hB)]; exact hc0
              unfold maxLen at g2
              clear hx hc0
              go_wp2
              go_roundw
              case rel => exact ⟨k + 1, by go_num, by rw [HXN.out]; go_num, by omega, XR.out⟩
              case measure => simp [intOf]; omega
            · obtain rfl : k = m.texts.length := by omega
              have hml : ((L : Int) == 12 + (cdsN m.codes : Int) + (szTo m.texts m.texts.length : Int)) = true := by rw [HML.out]; simp
              go_wp2
              go_ret
              refine ⟨?_, XR.out.low⟩
              first | rfl | (refine congrArg Ending.returned (congrArg Value.bool ?_); have := HML.out; simp [*]; done)
    · have X3 := Lib.hid (X2.out.on hb3)
      go_wp2
      go_ret
      exact ⟨rfl, X3.out.low⟩

end Go.Proofs.YtecjkmemihmkcaaDoor
