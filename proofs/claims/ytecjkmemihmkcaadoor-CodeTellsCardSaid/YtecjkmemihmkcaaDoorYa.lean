/- What the document's Right returns, of a code and of a module. Conditions: none beyond what a module is. -/
import Derived.Test.YtecjkmemihmkcaaDoorZf
namespace Go.Proofs.YtecjkmemihmkcaaDoor
set_option maxRecDepth 100000
open Go.RowKit
set_option linter.unusedSimpArgs false
set_option linter.unusedVariables false

theorem typed (t : Int) (w : World) : Calls Tryd.prog 71 #[.int .i64 t] w (Says (okT t) w) := by
  unfold okT
  go_enter Tryd.func71, Tryd.ntmps71
  go_wp2
  all_goals go_ret
  all_goals (refine ⟨?_, Below.refl _ _⟩; simp; omega)

set_option maxHeartbeats 1600000 in
theorem refCode (c : Cd) (V : Value) (w : World) (h : CodeV w w.heap.size c V) : Calls Tryd.prog 42 #[V] w (Says (okCd c) w) := by
  obtain ⟨P, I, rfl, hP, hI⟩ := h
  obtain ⟨AP, cP, rfl, p1, p2, p3⟩ := hP
  obtain ⟨AI, cI, rfl, q1, q2, q3⟩ := hI
  have HLP := Lib.hid p3
  have HLI := Lib.hid q3
  have HN := Lib.hid (@okCd_not c)
  have HYY := Lib.hid (@okCd_yes c)
  have hs : (strOfNums c.name).size = c.name.length := strOfNums_size _
  clear p3 q3
  unfold coC
  unfold maxLen at p2 q2
  generalize strOfNums c.name = nm at *
  generalize okCd c = r at *
  generalize c.result = rt at *
  have B0 : Hid (Below w.heap.size w (w.alloc (.cells #[.string nm, .slice AP c.params.length cP, .int .i64 rt, .int .i64 c.slots, .slice AI c.instrs.length cI] 46))) := Lib.hid ((Below.refl w.heap.size w).alloc (Nat.le_refl _) _)
  have CE : Hid (∀ w', Below (w.heap.size + 1) (w.alloc (.cells #[.string nm, .slice AP c.params.length cP, .int .i64 rt, .int .i64 c.slots, .slice AI c.instrs.length cI] 46)) w' → w'.cell? ⟨w.heap.size, 1, none⟩ = some (.slice AP c.params.length cP) ∧ w'.cell? ⟨w.heap.size, 4, none⟩ = some (.slice AI c.instrs.length cI)) := fun w' hb => by
    have hx : w'.heap[w.heap.size]? = some (.cells #[.string nm, .slice AP c.params.length cP, .int .i64 rt, .int .i64 c.slots, .slice AI c.instrs.length cI] 46) := by rw [hb.block _ (Nat.lt_succ_self _)]; exact heap_alloc_new w _
    exact ⟨by rw [cell_of_row _ _ _ _ _ _ hx]; rfl, by rw [cell_of_row _ _ _ _ _ _ hx]; rfl⟩
  have CF : Hid (∀ w', Below (w.heap.size + 1) (w.alloc (.cells #[.string nm, .slice AP c.params.length cP, .int .i64 rt, .int .i64 c.slots, .slice AI c.instrs.length cI] 46)) w' → w'.cell? ⟨w.heap.size, 2, none⟩ = some (.int .i64 rt) ∧ w'.cell? ⟨w.heap.size, 3, none⟩ = some (.int .i64 c.slots)) := fun w' hb => by
    have hx : w'.heap[w.heap.size]? = some (.cells #[.string nm, .slice AP c.params.length cP, .int .i64 rt, .int .i64 c.slots, .slice AI c.instrs.length cI] 46) := by rw [hb.block _ (Nat.lt_succ_self _)]; exact heap_alloc_new w _
    exact ⟨by rw [cell_of_row _ _ _ _ _ _ hx]; rfl, by rw [cell_of_row _ _ _ _ _ _ hx]; rfl⟩
  by_cases g1 : c.name.length ≤ 16
  · by_cases g2 : c.params.length ≤ 16
    · go_enter Tryd.func42, Tryd.ntmps42
      go_wp2_with fail
      refine (typed rt _).mono ?_
      rintro e w1 ⟨rfl, hb1⟩
      have C1 : Hid (Below (w.heap.size + 1) (w.alloc (.cells #[.string nm, .slice AP c.params.length cP, .int .i64 rt, .int .i64 c.slots, .slice AI c.instrs.length cI] 46)) w1) := Lib.hid (hb1.mono (by simp))
      have B1 : Hid (Below w.heap.size w w1) := Lib.hid (B0.out.trans (C1.out.mono (Nat.le_succ _)))
      obtain ⟨d1, d4⟩ := CE.out _ C1.out
      obtain ⟨d2, d3⟩ := CF.out _ C1.out
      clear hb1
      cases hq1 : okT rt with
      | true =>
        by_cases g4 : (c.params.length : Int) ≤ c.slots
        · by_cases g5 : c.slots ≤ 256
          · by_cases g3 : c.instrs.length ≤ 16384
            · have HY : Hid (r = (c.params.all okT && c.instrs.all okI)) := Lib.hid (HYY.out g1 g2 g3 g4 g5 (.inr hq1))
              go_wp2_with fail
              go_loopw [3] (fun i wr => ∃ k : Nat, i = .int .i64 k ∧ k ≤ c.params.length ∧ (c.params.take k).all okT = true ∧ Hid (Below (w.heap.size + 1) (w.alloc (.cells #[.string nm, .slice AP c.params.length cP, .int .i64 rt, .int .i64 c.slots, .slice AI c.instrs.length cI] 46)) wr)) (fun i _ => c.params.length - (intOf i).toNat)
              case atStart => exact ⟨0, rfl, Nat.zero_le _, rfl, C1.out⟩
              case round =>
                clear B1 C1
                obtain ⟨k, rfl, hk, hall, C1⟩ := hrel
                have B1 : Hid (Below w.heap.size w wr) := Lib.hid (B0.out.trans (C1.out.mono (Nat.le_succ _)))
                obtain ⟨d1, d4⟩ := CE.out _ C1.out
                have HK := Lib.hid hall
                clear hall
                by_cases hkl : k < c.params.length
                · obtain ⟨x, hx⟩ : ∃ x, c.params[k]? = some x := ⟨_, List.getElem?_eq_getElem hkl⟩
                  obtain ⟨ad, rfl, hB, hc0⟩ := HLP.out.2 k _ (tysV_at hx)
                  have hc : wr.cell? (ad.add k) = some (.int .i64 x) := by rw [B1.out.cell (by rw [addr_block]; exact hB)]; exact hc0
                  have HX := Lib.hid hx
                  clear hx hc0
                  go_wp2_with fail
                  refine (typed x _).mono ?_
                  rintro e w2 ⟨rfl, hb2⟩
                  have C2 := Lib.hid (C1.out.trans (hb2.mono (by have := C1.out.size; simpa using this)))
                  have B2 : Hid (Below w.heap.size w w2) := Lib.hid (B0.out.trans (C2.out.mono (Nat.le_succ _)))
                  clear hb2
                  cases hq2 : okT x with
                  | true =>
                    have HN := Lib.hid ((all_take HX.out HK.out).trans hq2)
                    clear hq2
                    go_wp2
                    go_roundw
                    case rel => exact ⟨k + 1, by go_num, by omega, HN.out, C2.out⟩
                    case measure => simp [intOf]; omega
                  | false =>
                    have hna := all_not HX.out hq2
                    rw [hna] at HY
                    have HR := Lib.hid HY.out
                    clear hq2 hna
                    go_wp2
                    go_ret
                    exact ⟨by rw [HR.out]; rfl, B2.out⟩
                · obtain rfl : k = c.params.length := by omega
                  have hpt : c.params.all okT = true := by have := HK.out; rwa [List.take_length] at this
                  rw [hpt] at HY
                  clear hpt
                  go_wp2_with fail
                  go_loopw [4] (fun i wr => ∃ k : Nat, i = .int .i64 k ∧ k ≤ c.instrs.length ∧ (c.instrs.take k).all okI = true ∧ Hid (Below (w.heap.size + 1) (w.alloc (.cells #[.string nm, .slice AP c.params.length cP, .int .i64 rt, .int .i64 c.slots, .slice AI c.instrs.length cI] 46)) wr)) (fun i _ => c.instrs.length - (intOf i).toNat)
                  case atStart => exact ⟨0, rfl, Nat.zero_le _, rfl, C1.out⟩
                  case round =>
                    clear B1 C1 HK d1 d4
                    obtain ⟨k, rfl, hk, hall, C1⟩ := hrel
                    have B1 : Hid (Below w.heap.size w wr) := Lib.hid (B0.out.trans (C1.out.mono (Nat.le_succ _)))
                    obtain ⟨d1, d4⟩ := CE.out _ C1.out
                    have HK := Lib.hid hall
                    clear hall
                    by_cases hkl2 : k < c.instrs.length
                    · obtain ⟨x, hx⟩ : ∃ x, c.instrs[k]? = some x := ⟨_, List.getElem?_eq_getElem hkl2⟩
                      have hx2 := insV_at hx
                      obtain ⟨b, o, rfl, hB, hcc⟩ := lies_flat HLI.out hx2.1
                      have hc : wr.cell? ⟨b, o + k * 2, none⟩ = some (.int .i64 x.1) := by rw [B1.out.cell hB]; exact hcc _ _ hx2.1
                      have HX := Lib.hid hx
                      have hqe : okI x = (decide (1 ≤ x.1) && decide (x.1 ≤ 18)) := rfl
                      clear hx hx2 hcc
                      by_cases y1 : 1 ≤ x.1
                      · by_cases y2 : x.1 ≤ 18
                        · have HN := Lib.hid ((all_take HX.out HK.out).trans (show okI x = true by rw [hqe]; simp [y1, y2]))
                          clear hqe
                          go_wp2
                          go_roundw
                          case rel => exact ⟨k + 1, by go_num, by omega, HN.out, C1.out⟩
                          case measure => simp [intOf]; omega
                        · have hna := all_not HX.out (show okI x = false by rw [hqe]; simp [y1, y2])
                          rw [hna] at HY
                          have HR := Lib.hid HY.out
                          clear hqe hna
                          go_wp2
                          go_ret
                          exact ⟨by rw [HR.out]; rfl, B1.out⟩
                      · have hna := all_not HX.out (show okI x = false by rw [hqe]; simp [y1])
                        rw [hna] at HY
                        have HR := Lib.hid HY.out
                        clear hqe hna
                        go_wp2
                        go_ret
                        exact ⟨by rw [HR.out]; rfl, B1.out⟩
                    · obtain rfl : k = c.instrs.length := by omega
                      have hpt : c.instrs.all okI = true := by have := HK.out; rwa [List.take_length] at this
                      rw [hpt] at HY
                      have HR := Lib.hid HY.out
                      clear hpt
                      go_wp2
                      go_ret
                      exact ⟨by rw [HR.out]; rfl, B1.out⟩
            · have hr := HN.out (fun h => g3 h.2.2.1)
              go_wp2
              go_ret
              exact ⟨by first | rfl | (rw [hr]; rfl), B1.out⟩
          · have hr := HN.out (fun h => g5 h.2.2.2.2.1)
            go_wp2
            go_ret
            exact ⟨by first | rfl | (rw [hr]; rfl), B1.out⟩
        · have hr := HN.out (fun h => g4 h.2.2.2.1)
          go_wp2
          go_ret
          exact ⟨by first | rfl | (rw [hr]; rfl), B1.out⟩
      | false =>
        by_cases g6 : rt = 0
        · have g7 := g6
          by_cases g4 : (c.params.length : Int) ≤ c.slots
          · by_cases g5 : c.slots ≤ 256
            · by_cases g3 : c.instrs.length ≤ 16384
              · have HY : Hid (r = (c.params.all okT && c.instrs.all okI)) := Lib.hid (HYY.out g1 g2 g3 g4 g5 (.inl g7))
                go_wp2_with fail
                go_loopw [3] (fun i wr => ∃ k : Nat, i = .int .i64 k ∧ k ≤ c.params.length ∧ (c.params.take k).all okT = true ∧ Hid (Below (w.heap.size + 1) (w.alloc (.cells #[.string nm, .slice AP c.params.length cP, .int .i64 rt, .int .i64 c.slots, .slice AI c.instrs.length cI] 46)) wr)) (fun i _ => c.params.length - (intOf i).toNat)
                case atStart => exact ⟨0, rfl, Nat.zero_le _, rfl, C1.out⟩
                case round =>
                  clear B1 C1
                  obtain ⟨k, rfl, hk, hall, C1⟩ := hrel
                  have B1 : Hid (Below w.heap.size w wr) := Lib.hid (B0.out.trans (C1.out.mono (Nat.le_succ _)))
                  obtain ⟨d1, d4⟩ := CE.out _ C1.out
                  have HK := Lib.hid hall
                  clear hall
                  by_cases hkl : k < c.params.length
                  · obtain ⟨x, hx⟩ : ∃ x, c.params[k]? = some x := ⟨_, List.getElem?_eq_getElem hkl⟩
                    obtain ⟨ad, rfl, hB, hc0⟩ := HLP.out.2 k _ (tysV_at hx)
                    have hc : wr.cell? (ad.add k) = some (.int .i64 x) := by rw [B1.out.cell (by rw [addr_block]; exact hB)]; exact hc0
                    have HX := Lib.hid hx
                    clear hx hc0
                    go_wp2_with fail
                    refine (typed x _).mono ?_
                    rintro e w2 ⟨rfl, hb2⟩
                    have C2 := Lib.hid (C1.out.trans (hb2.mono (by have := C1.out.size; simpa using this)))
                    have B2 : Hid (Below w.heap.size w w2) := Lib.hid (B0.out.trans (C2.out.mono (Nat.le_succ _)))
                    clear hb2
                    cases hq2 : okT x with
                    | true =>
                      have HN := Lib.hid ((all_take HX.out HK.out).trans hq2)
                      clear hq2
                      go_wp2
                      go_roundw
                      case rel => exact ⟨k + 1, by go_num, by omega, HN.out, C2.out⟩
                      case measure => simp [intOf]; omega
                    | false =>
                      have hna := all_not HX.out hq2
                      rw [hna] at HY
                      have HR := Lib.hid HY.out
                      clear hq2 hna
                      go_wp2
                      go_ret
                      exact ⟨by rw [HR.out]; rfl, B2.out⟩
                  · obtain rfl : k = c.params.length := by omega
                    have hpt : c.params.all okT = true := by have := HK.out; rwa [List.take_length] at this
                    rw [hpt] at HY
                    clear hpt
                    go_wp2_with fail
                    go_loopw [4] (fun i wr => ∃ k : Nat, i = .int .i64 k ∧ k ≤ c.instrs.length ∧ (c.instrs.take k).all okI = true ∧ Hid (Below (w.heap.size + 1) (w.alloc (.cells #[.string nm, .slice AP c.params.length cP, .int .i64 rt, .int .i64 c.slots, .slice AI c.instrs.length cI] 46)) wr)) (fun i _ => c.instrs.length - (intOf i).toNat)
                    case atStart => exact ⟨0, rfl, Nat.zero_le _, rfl, C1.out⟩
                    case round =>
                      clear B1 C1 HK d1 d4
                      obtain ⟨k, rfl, hk, hall, C1⟩ := hrel
                      have B1 : Hid (Below w.heap.size w wr) := Lib.hid (B0.out.trans (C1.out.mono (Nat.le_succ _)))
                      obtain ⟨d1, d4⟩ := CE.out _ C1.out
                      have HK := Lib.hid hall
                      clear hall
                      by_cases hkl2 : k < c.instrs.length
                      · obtain ⟨x, hx⟩ : ∃ x, c.instrs[k]? = some x := ⟨_, List.getElem?_eq_getElem hkl2⟩
                        have hx2 := insV_at hx
                        obtain ⟨b, o, rfl, hB, hcc⟩ := lies_flat HLI.out hx2.1
                        have hc : wr.cell? ⟨b, o + k * 2, none⟩ = some (.int .i64 x.1) := by rw [B1.out.cell hB]; exact hcc _ _ hx2.1
                        have HX := Lib.hid hx
                        have hqe : okI x = (decide (1 ≤ x.1) && decide (x.1 ≤ 18)) := rfl
                        clear hx hx2 hcc
                        by_cases y1 : 1 ≤ x.1
                        · by_cases y2 : x.1 ≤ 18
                          · have HN := Lib.hid ((all_take HX.out HK.out).trans (show okI x = true by rw [hqe]; simp [y1, y2]))
                            clear hqe
                            go_wp2
                            go_roundw
                            case rel => exact ⟨k + 1, by go_num, by omega, HN.out, C1.out⟩
                            case measure => simp [intOf]; omega
                          · have hna := all_not HX.out (show okI x = false by rw [hqe]; simp [y1, y2])
                            rw [hna] at HY
                            have HR := Lib.hid HY.out
                            clear hqe hna
                            go_wp2
                            go_ret
                            exact ⟨by rw [HR.out]; rfl, B1.out⟩
                        · have hna := all_not HX.out (show okI x = false by rw [hqe]; simp [y1])
                          rw [hna] at HY
                          have HR := Lib.hid HY.out
                          clear hqe hna
                          go_wp2
                          go_ret
                          exact ⟨by rw [HR.out]; rfl, B1.out⟩
                      · obtain rfl : k = c.instrs.length := by omega
                        have hpt : c.instrs.all okI = true := by have := HK.out; rwa [List.take_length] at this
                        rw [hpt] at HY
                        have HR := Lib.hid HY.out
                        clear hpt
                        go_wp2
                        go_ret
                        exact ⟨by rw [HR.out]; rfl, B1.out⟩
              · have hr := HN.out (fun h => g3 h.2.2.1)
                go_wp2
                go_ret
                exact ⟨by first | rfl | (rw [hr]; rfl), B1.out⟩
            · have hr := HN.out (fun h => g5 h.2.2.2.2.1)
              go_wp2
              go_ret
              exact ⟨by first | rfl | (rw [hr]; rfl), B1.out⟩
          · have hr := HN.out (fun h => g4 h.2.2.2.1)
            go_wp2
            go_ret
            exact ⟨by first | rfl | (rw [hr]; rfl), B1.out⟩
        · have hr := HN.out (fun h => by rcases h.2.2.2.2.2 with h | h; exact g6 h; rw [hq1] at h; cases h)
          go_wp2
          go_ret
          exact ⟨by first | rfl | (rw [hr]; rfl), B1.out⟩
    · have hr := HN.out (fun h => g2 h.2.1)
      go_enter Tryd.func42, Tryd.ntmps42
      go_wp2
      go_ret
      exact ⟨by first | rfl | (rw [hr]; rfl), B0.out⟩
  · have hr := HN.out (fun h => g1 h.1)
    go_enter Tryd.func42, Tryd.ntmps42
    go_wp2
    go_ret
    exact ⟨by first | rfl | (rw [hr]; rfl), B0.out⟩

end Go.Proofs.YtecjkmemihmkcaaDoor
