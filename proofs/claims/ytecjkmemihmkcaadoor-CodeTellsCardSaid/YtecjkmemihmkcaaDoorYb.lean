/- What the document's Right returns, of a module. Conditions: none beyond what a module is. -/
import Derived.Test.YtecjkmemihmkcaaDoorYa
namespace Go.Proofs.YtecjkmemihmkcaaDoor
set_option maxRecDepth 100000
open Go.RowKit
set_option linter.unusedSimpArgs false
set_option linter.unusedVariables false

set_option maxHeartbeats 1600000 in
theorem refRight (m : Md) (V : Value) (w : World) (h : ModV w w.heap.size m V) : Calls Tryd.prog 18 #[V] w (Says (okMd m) w) := by
  obtain ⟨C, T, rfl, hC, hT⟩ := h
  obtain ⟨AC, cC, vs, rfl, p1, p2, p3, p4⟩ := hC
  obtain ⟨AT, cT, rfl, q1, q2, q3⟩ := hT
  have HL := Lib.hid p3
  have HS := Lib.hid p4
  have HG := Lib.hid q3
  clear p3 p4 q3
  unfold maxLen at p2 q2
  have HN : Hid (¬ (m.codes.length ≤ 64 ∧ m.texts.length ≤ 1024) → okMd m = false) := fun h => by
    rw [← Bool.not_eq_true]
    intro h2
    exact h ⟨(okMd_is h2).1, (okMd_is h2).2.1⟩
  have HYY : Hid (m.codes.length ≤ 64 → m.texts.length ≤ 1024 → okMd m = (m.codes.all okCd && m.texts.all okX)) := fun h1 h2 => by simp only [okMd, h1, h2, decide_true, Bool.true_and]
  have HXE : Hid (∀ s, okX s = decide (s.length ≤ 64)) := fun s => rfl
  have B0 : Hid (Below w.heap.size w (w.alloc (.cells #[.slice AC m.codes.length cC, .slice AT m.texts.length cT] 25))) := Lib.hid ((Below.refl w.heap.size w).alloc (Nat.le_refl _) _)
  have CE : Hid (∀ w', Below (w.heap.size + 1) (w.alloc (.cells #[.slice AC m.codes.length cC, .slice AT m.texts.length cT] 25)) w' → w'.cell? ⟨w.heap.size, 0, none⟩ = some (.slice AC m.codes.length cC) ∧ w'.cell? ⟨w.heap.size, 1, none⟩ = some (.slice AT m.texts.length cT)) := fun w' hb => by
    have hx : w'.heap[w.heap.size]? = some (.cells #[.slice AC m.codes.length cC, .slice AT m.texts.length cT] 25) := by rw [hb.block _ (Nat.lt_succ_self _)]; exact heap_alloc_new w _
    exact ⟨by rw [cell_of_row _ _ _ _ _ _ hx]; rfl, by rw [cell_of_row _ _ _ _ _ _ hx]; rfl⟩
  generalize okMd m = r at *
  by_cases g1 : m.codes.length ≤ 64
  · by_cases g2 : m.texts.length ≤ 1024
    · have HY := Lib.hid (HYY.out g1 g2)
      go_enter Tryd.func18, Tryd.ntmps18
      go_upto_region 3 with fail
      have wsz : Hid (w.heap.size + 1 ≤ (w.alloc (.cells #[.slice AC m.codes.length cC, .slice AT m.texts.length cT] 25)).heap.size) := Lib.hid (by simp)
      generalize w.alloc (.cells #[.slice AC m.codes.length cC, .slice AT m.texts.length cT] 25) = wa at *
      go_wp2_with fail
      go_loopw [3] (fun i wr => ∃ k : Nat, i = .int .i64 k ∧ k ≤ m.texts.length ∧ (m.texts.take k).all okX = true ∧ Hid (Below (w.heap.size + 1) wa wr)) (fun i _ => m.texts.length - (intOf i).toNat)
      case atStart => exact ⟨0, rfl, Nat.zero_le _, rfl, Below.refl _ _⟩
      case round =>
        obtain ⟨k, rfl, hk, hall, C1⟩ := hrel
        have B1 : Hid (Below w.heap.size w wr) := Lib.hid (B0.out.trans (C1.out.mono (Nat.le_succ _)))
        obtain ⟨c0, c1⟩ := CE.out _ C1.out
        have HK := Lib.hid hall
        clear hall
        by_cases hkl : k < m.texts.length
        · obtain ⟨x, hx⟩ : ∃ x, m.texts[k]? = some x := ⟨_, List.getElem?_eq_getElem hkl⟩
          obtain ⟨ad, A', c', rfl, hB, hc0, y1, y2, _⟩ := HG.out.2 k x hx
          have hc : wr.cell? (ad.add k) = some (.slice A' x.length c') := by rw [B1.out.cell (by rw [addr_block]; exact hB)]; exact hc0
          have HX := Lib.hid hx
          unfold maxLen at y2
          clear hx hc0
          by_cases hq : x.length ≤ 64
          · have HN := Lib.hid ((all_take HX.out HK.out).trans (show okX x = true by rw [HXE.out]; simpa using hq))
            go_wp2
            go_roundw
            case rel => exact ⟨k + 1, by go_num, by omega, HN.out, C1.out⟩
            case measure => simp [intOf]; omega
          · have hna := all_not HX.out (show okX x = false by rw [HXE.out]; simpa using hq)
            rw [hna, Bool.and_false] at HY
            have HR := Lib.hid HY.out
            clear hna
            go_wp2
            go_ret
            exact ⟨by rw [HR.out]; rfl, B1.out⟩
        · obtain rfl : k = m.texts.length := by omega
          have hpt : m.texts.all okX = true := by have := HK.out; rwa [List.take_length] at this
          rw [hpt, Bool.and_true] at HY
          clear hpt HK
          go_wp2_with fail
          generalize wr = wo at *
          go_loopw [4] (fun i wr => ∃ k : Nat, i = .int .i64 k ∧ k ≤ m.codes.length ∧ (m.codes.take k).all okCd = true ∧ Hid (Below (w.heap.size + 1) wa wr)) (fun i _ => m.codes.length - (intOf i).toNat)
          case atStart => exact ⟨0, rfl, Nat.zero_le _, rfl, C1.out⟩
          case round =>
            clear c0 c1 C1 B1
            obtain ⟨k, rfl, hk, hall, C1⟩ := hrel
            have B1 : Hid (Below w.heap.size w wr) := Lib.hid (B0.out.trans (C1.out.mono (Nat.le_succ _)))
            obtain ⟨c0, c1⟩ := CE.out _ C1.out
            have HK := Lib.hid hall
            clear hall
            by_cases hkl2 : k < m.codes.length
            · obtain ⟨x, hx⟩ : ∃ x, m.codes[k]? = some x := ⟨_, List.getElem?_eq_getElem hkl2⟩
              obtain ⟨P, I, hP, hI, hget⟩ := HS.out.get hx
              obtain ⟨AP, cP, rfl, r1, r2, r3⟩ := hP
              obtain ⟨AI, cI, rfl, s1, s2, s3⟩ := hI
              obtain ⟨b, o, rfl, hB, hcc⟩ := lies_flat HL.out (hget 0 _ rfl)
              have HR : Hid (wr.rangeAt b (o + k * 5) (coC x (.slice AP x.params.length cP) (.slice AI x.instrs.length cI))) := fun j u hu => by
                show wr.cell? ⟨b, o + k * 5 + j, none⟩ = some u
                rw [Nat.add_assoc, B1.out.cell hB]
                exact hcc _ _ (hget j u hu)
              have HV : Hid (CodeV w w.heap.size x (.agg #[.string (strOfNums x.name), .slice AP x.params.length cP, .int .i64 x.result, .int .i64 x.slots, .slice AI x.instrs.length cI])) := ⟨_, _, rfl, ⟨AP, cP, rfl, r1, r2, r3⟩, ⟨AI, cI, rfl, s1, s2, s3⟩⟩
              have HX := Lib.hid hx
              have K := Lib.hid (refCode x _ wr (HV.out.below B1.out B1.out.size))
              clear r3 s3 hget hx hcc
              unfold maxLen at r2 s2
              go_wp2_with (first | (refine wpList_load_mid rfl 46 (.tmp 40) rfl b (o + k * 5) rfl [.string (strOfNums x.name), .slice AP x.params.length cP, .int .i64 x.result, .int .i64 x.slots, .slice AI x.instrs.length cI] _ HR.out Tryd.underlying46 rfl info46s ?_; refine Hid.out ?_) | fail)
              refine Lib.hid ?_
              go_wp2_with fail
              refine K.out.mono ?_
              clear K
              rintro e w2 ⟨rfl, hb2⟩
              have hs1 := C1.out.size
              have C2 := Lib.hid (C1.out.trans (hb2.mono (by have := wsz.out; omega)))
              have B2 := Lib.hid (B0.out.trans (C2.out.mono (Nat.le_succ _)))
              clear hb2 hs1
              cases hq2 : okCd x with
              | true =>
                have HN2 := Lib.hid ((all_take HX.out HK.out).trans hq2)
                clear hq2
                go_wp2
                go_roundw
                case rel => exact ⟨k + 1, by go_num, by omega, HN2.out, C2.out⟩
                case measure => simp [intOf]; omega
              | false =>
                have hna := all_not HX.out hq2
                rw [hna] at HY
                have HR2 := Lib.hid HY.out
                clear hq2 hna
                go_wp2
                go_ret
                exact ⟨by rw [HR2.out]; rfl, B2.out⟩
            · obtain rfl : k = m.codes.length := by omega
              have hpt : m.codes.all okCd = true := by have := HK.out; rwa [List.take_length] at this
              rw [hpt] at HY
              have HR2 := Lib.hid HY.out
              clear hpt
              go_wp2
              go_ret
              exact ⟨by rw [HR2.out]; rfl, B1.out⟩
    · have hr := HN.out (fun h => g2 h.2)
      go_enter Tryd.func18, Tryd.ntmps18
      go_wp2
      go_ret
      exact ⟨by first | rfl | (rw [hr]; rfl), B0.out⟩
  · have hr := HN.out (fun h => g1 h.1)
    go_enter Tryd.func18, Tryd.ntmps18
    go_wp2
    go_ret
    exact ⟨by first | rfl | (rw [hr]; rfl), B0.out⟩

end Go.Proofs.YtecjkmemihmkcaaDoor
