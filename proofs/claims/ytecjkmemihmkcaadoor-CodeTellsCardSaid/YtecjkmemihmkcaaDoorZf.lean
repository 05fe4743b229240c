/- What 'Right' returns, of a code, of codes and of a module. Conditions: none beyond what a module is. -/
import Derived.Test.YtecjkmemihmkcaaDoorZe
namespace Go.Proofs.YtecjkmemihmkcaaDoor
set_option maxRecDepth 100000
open Go.RowKit
set_option linter.unusedSimpArgs false
set_option linter.unusedVariables false

theorem okCd_not {c : Cd} (h : ¬ (c.name.length ≤ 16 ∧ c.params.length ≤ 16 ∧ c.instrs.length ≤ 16384 ∧ (c.params.length : Int) ≤ c.slots ∧ c.slots ≤ 256 ∧ (c.result = 0 ∨ okT c.result = true))) : okCd c = false := by
  rw [← Bool.not_eq_true]
  intro h2
  obtain ⟨h1, h2, h3, h4, h5, h6, h7, h8⟩ := okCd_is h2
  exact h ⟨h1, h2, h3, h4, h5, h6⟩
theorem okCd_yes {c : Cd} (h1 : c.name.length ≤ 16) (h2 : c.params.length ≤ 16) (h3 : c.instrs.length ≤ 16384) (h4 : (c.params.length : Int) ≤ c.slots) (h5 : c.slots ≤ 256) (h6 : c.result = 0 ∨ okT c.result = true) : okCd c = (c.params.all okT && c.instrs.all okI) := by
  have h7 : (decide (c.result = 0) || okT c.result) = true := by simpa using h6
  simp only [okCd, h1, h2, h3, h4, h5, h7, decide_true, Bool.true_and]

set_option maxHeartbeats 800000 in
theorem rightCode (c : Cd) (V : Value) (w : World) (h : CodeV w w.heap.size c V) : Calls Tryd.prog 39 #[V] w (Says (okCd c) w) := by
  obtain ⟨P, I, rfl, hP, hI⟩ := h
  have KT := Lib.hid (fun w' hb => allTypes P c.params w' ((hP.below (w' := w') hb).more hb.size))
  have KI := Lib.hid (fun w' hb => allInstrs I c.instrs w' ((hI.below (w' := w') hb).more hb.size))
  obtain ⟨AP, cP, rfl, p1, p2, p3⟩ := hP
  obtain ⟨AI, cI, rfl, q1, q2, q3⟩ := hI
  have HN := Lib.hid (@okCd_not c)
  have HY := Lib.hid (@okCd_yes c)
  have hs : (strOfNums c.name).size = c.name.length := strOfNums_size _
  clear p3 q3
  unfold coC
  unfold maxLen at p2 q2
  generalize strOfNums c.name = nm at *
  generalize okCd c = r at *
  generalize c.result = rt at *
  by_cases g1 : c.name.length ≤ 16
  · by_cases g2 : c.params.length ≤ 16
    · by_cases g3 : c.instrs.length ≤ 16384
      · by_cases g4 : (c.params.length : Int) ≤ c.slots
        · by_cases g5 : c.slots ≤ 256
          · have B1 := Lib.hid ((Below.refl w.heap.size w).alloc (Nat.le_refl _) (.cells #[.string nm, .slice AP c.params.length cP, .int .i64 rt, .int .i64 c.slots, .slice AI c.instrs.length cI] 46))
            have CE : Hid (∀ w', Below (w.heap.size + 1) (w.alloc (.cells #[.string nm, .slice AP c.params.length cP, .int .i64 rt, .int .i64 c.slots, .slice AI c.instrs.length cI] 46)) w' → w'.cell? ⟨w.heap.size, 1, none⟩ = some (.slice AP c.params.length cP) ∧ w'.cell? ⟨w.heap.size, 2, none⟩ = some (.int .i64 rt) ∧ w'.cell? ⟨w.heap.size, 4, none⟩ = some (.slice AI c.instrs.length cI)) := fun w' hb => by
              have hx : w'.heap[w.heap.size]? = some (.cells #[.string nm, .slice AP c.params.length cP, .int .i64 rt, .int .i64 c.slots, .slice AI c.instrs.length cI] 46) := by rw [hb.block _ (Nat.lt_succ_self _)]; exact heap_alloc_new w _
              exact ⟨by rw [cell_of_row _ _ _ _ _ _ hx]; rfl, by rw [cell_of_row _ _ _ _ _ _ hx]; rfl, by rw [cell_of_row _ _ _ _ _ _ hx]; rfl⟩
            by_cases g6 : rt = 0
            · have hy := HY.out g1 g2 g3 g4 g5 (.inl g6)
              subst g6
              have CB := Lib.hid (Below.refl (w.heap.size + 1) (w.alloc (.cells #[.string nm, .slice AP c.params.length cP, .int .i64 0, .int .i64 c.slots, .slice AI c.instrs.length cI] 46)))
              go_enter Tryd.func39, Tryd.ntmps39
              have K1 := Lib.hid (KT.out _ B1.out)
              go_wp2_with fail
              refine K1.out.mono ?_
              rintro e w2 ⟨rfl, hb2⟩
              have B2 : Hid (Below w.heap.size w w2) := Lib.hid (B1.out.trans (hb2.mono B1.out.size))
              have C2 : Hid (Below (w.heap.size + 1) (w.alloc (.cells #[.string nm, .slice AP c.params.length cP, .int .i64 0, .int .i64 c.slots, .slice AI c.instrs.length cI] 46)) w2) := Lib.hid (CB.out.trans (hb2.mono (by simp)))
              have K2 := Lib.hid (KI.out _ B2.out)
              have d4 := (CE.out _ C2.out).2.2
              clear K1 hb2
              cases hq : c.params.all okT with
              | false =>
                rw [hq] at hy
                go_wp2
                go_ret
                exact ⟨by first | rfl | (rw [hy]; rfl), B2.out⟩
              | true =>
                rw [hq] at hy
                have HYY := Lib.hid hy
                clear hy hq
                go_wp2_with fail
                refine K2.out.mono ?_
                rintro e w3 ⟨rfl, hb3⟩
                have B3 : Hid (Below w.heap.size w w3) := Lib.hid (B2.out.trans (hb3.mono B2.out.size))
                clear hb3 K2
                go_wp2
                go_ret
                exact ⟨by rw [HYY.out]; rfl, B3.out⟩
            · go_enter Tryd.func39, Tryd.ntmps39
              go_wp2_with fail
              refine (ofValue rt _).mono ?_
              rintro e w1 ⟨rfl, hb1⟩
              have CB : Hid (Below (w.heap.size + 1) (w.alloc (.cells #[.string nm, .slice AP c.params.length cP, .int .i64 rt, .int .i64 c.slots, .slice AI c.instrs.length cI] 46)) w1) := Lib.hid (hb1.mono (by simp))
              have B5 : Hid (Below w.heap.size w w1) := Lib.hid (B1.out.trans (CB.out.mono (Nat.le_succ _)))
              have d1 := (CE.out _ CB.out).1
              clear hb1
              cases hq1 : okT rt with
              | false =>
                have hr := HN.out (fun h => by rcases h.2.2.2.2.2 with h | h; exact g6 h; rw [hq1] at h; cases h)
                go_wp2
                go_ret
                exact ⟨by first | rfl | (rw [hr]; rfl), B5.out⟩
              | true =>
                have hy := HY.out g1 g2 g3 g4 g5 (.inr hq1)
                clear hq1
                have K1 := Lib.hid (KT.out _ B5.out)
                go_wp2_with fail
                refine K1.out.mono ?_
                rintro e w2 ⟨rfl, hb2⟩
                have B2 : Hid (Below w.heap.size w w2) := Lib.hid (B5.out.trans (hb2.mono B5.out.size))
                have C2 : Hid (Below (w.heap.size + 1) (w.alloc (.cells #[.string nm, .slice AP c.params.length cP, .int .i64 rt, .int .i64 c.slots, .slice AI c.instrs.length cI] 46)) w2) := Lib.hid (CB.out.trans (hb2.mono (by have := CB.out.size; simpa using this)))
                have K2 := Lib.hid (KI.out _ B2.out)
                have d4 := (CE.out _ C2.out).2.2
                clear K1 hb2
                cases hq : c.params.all okT with
                | false =>
                  rw [hq] at hy
                  go_wp2
                  go_ret
                  exact ⟨by first | rfl | (rw [hy]; rfl), B2.out⟩
                | true =>
                  rw [hq] at hy
                  have HYY := Lib.hid hy
                  clear hy hq
                  go_wp2_with fail
                  refine K2.out.mono ?_
                  rintro e w3 ⟨rfl, hb3⟩
                  have B3 : Hid (Below w.heap.size w w3) := Lib.hid (B2.out.trans (hb3.mono B2.out.size))
                  clear hb3 K2
                  go_wp2
                  go_ret
                  exact ⟨by rw [HYY.out]; rfl, B3.out⟩
          · have hr := HN.out (fun h => g5 h.2.2.2.2.1)
            go_enter Tryd.func39, Tryd.ntmps39
            go_wp2
            go_ret
            exact ⟨by first | rfl | (rw [hr]; rfl), (Below.refl _ _).alloc (Nat.le_refl _) _⟩
        · have hr := HN.out (fun h => g4 h.2.2.2.1)
          go_enter Tryd.func39, Tryd.ntmps39
          go_wp2
          go_ret
          exact ⟨by first | rfl | (rw [hr]; rfl), (Below.refl _ _).alloc (Nat.le_refl _) _⟩
      · have hr := HN.out (fun h => g3 h.2.2.1)
        go_enter Tryd.func39, Tryd.ntmps39
        go_wp2
        go_ret
        exact ⟨by first | rfl | (rw [hr]; rfl), (Below.refl _ _).alloc (Nat.le_refl _) _⟩
    · have hr := HN.out (fun h => g2 h.2.1)
      go_enter Tryd.func39, Tryd.ntmps39
      go_wp2
      go_ret
      exact ⟨by first | rfl | (rw [hr]; rfl), (Below.refl _ _).alloc (Nat.le_refl _) _⟩
  · have hr := HN.out (fun h => g1 h.1)
    go_enter Tryd.func39, Tryd.ntmps39
    go_wp2
    go_ret
    exact ⟨by first | rfl | (rw [hr]; rfl), (Below.refl _ _).alloc (Nat.le_refl _) _⟩
theorem CodeV.below {w w' : World} {B : Nat} {c : Cd} {V : Value} (h : CodeV w B c V) (hb : Below B w w') {B' : Nat} (hB : B ≤ B') : CodeV w' B' c V := by
  obtain ⟨P, I, h1, h2, h3⟩ := h
  exact ⟨P, I, h1, (h2.below hb).more hB, (h3.below hb).more hB⟩

set_option maxHeartbeats 800000 in
theorem allCodes (V : Value) (ts : List Cd) (w : World) (h : CodesV w w.heap.size ts V) : Calls Tryd.prog 38 #[V, .func (.func 39) #[] #[]] w (Says (ts.all okCd) w) := by
  obtain ⟨A, c, vs, rfl, h1, h2, h3, h4⟩ := h
  have HL := Lib.hid h3
  have HS := Lib.hid h4
  clear h4
  have HA : Hid (∀ k x, ts[k]? = some x → okCd x = false → ts.all okCd = false) := fun k x hx h => all_not hx h
  have HT : Hid (∀ k x, ts[k]? = some x → (ts.take k).all okCd = true → (ts.take (k + 1)).all okCd = okCd x) := fun k x hx h => all_take hx h
  have HE : Hid ((ts.take ts.length).all okCd = ts.all okCd) := Lib.hid (by rw [List.take_length])
  clear h3
  unfold maxLen at h2
  generalize ts.all okCd = r at *
  go_enter Tryd.func38, Tryd.ntmps38
  go_wp2
  go_loopw [9] (fun i wr => ∃ k : Nat, k ≤ ts.length ∧ i = .int .i64 k ∧ (ts.take k).all okCd = true ∧ Below w.heap.size w wr) (fun i _ => ts.length - (intOf i).toNat)
  case atStart => exact ⟨0, Nat.zero_le _, rfl, rfl, Below.refl _ _⟩
  case round =>
    obtain ⟨k, hk, rfl, ha, hb⟩ := hrel
    have HB := Lib.hid hb
    have HK := Lib.hid ha
    clear hb ha
    by_cases hkl : k < ts.length
    · obtain ⟨x, hx⟩ : ∃ x, ts[k]? = some x := ⟨_, List.getElem?_eq_getElem hkl⟩
      obtain ⟨P, I, hP, hI, hget⟩ := HS.out.get hx
      obtain ⟨AP, cP, rfl, p1, p2, p3⟩ := hP
      obtain ⟨AI, cI, rfl, q1, q2, q3⟩ := hI
      obtain ⟨b, o, rfl, hB, hcc⟩ := lies_flat HL.out (hget 0 _ rfl)
      have HR : Hid (wr.rangeAt b (o + k * 5) (coC x (.slice AP x.params.length cP) (.slice AI x.instrs.length cI))) := fun j u hu => by
        show wr.cell? ⟨b, o + k * 5 + j, none⟩ = some u
        rw [Nat.add_assoc, HB.out.cell hB]
        exact hcc _ _ (hget j u hu)
      have HV : Hid (CodeV w w.heap.size x (.agg #[.string (strOfNums x.name), .slice AP x.params.length cP, .int .i64 x.result, .int .i64 x.slots, .slice AI x.instrs.length cI])) := ⟨_, _, rfl, ⟨AP, cP, rfl, p1, p2, p3⟩, ⟨AI, cI, rfl, q1, q2, q3⟩⟩
      clear p3 q3 hget
      unfold maxLen at p2 q2
      have HX := Lib.hid hx
      clear hx hcc
      go_wp2_with (first | (refine wpList_load_mid rfl 46 (.tmp 11) rfl b (o + k * 5) rfl [.string (strOfNums x.name), .slice AP x.params.length cP, .int .i64 x.result, .int .i64 x.slots, .slice AI x.instrs.length cI] _ HR.out Tryd.underlying46 rfl info46s ?_; refine Hid.out ?_) | fail)
      refine Lib.hid ?_
      go_wp2_with fail
      refine (rightCode x _ _ (HV.out.below (HB.out.alloc HB.out.size _) (by have := HB.out.size; simp; omega))).mono ?_
      rintro e w1 ⟨rfl, hb1⟩
      have HB1 : Hid (Below w.heap.size w w1) := Lib.hid ((HB.out.alloc HB.out.size _).trans (hb1.mono (by simp; have := HB.out.size; omega)))
      clear hb1
      cases hq : okCd x with
      | true =>
        have HN := Lib.hid ((HT.out k x HX.out HK.out).trans hq)
        clear hq
        go_wp2
        go_roundw
        case rel => exact ⟨k + 1, by omega, by go_num, HN.out, HB1.out⟩
        case measure => simp [intOf]; omega
      | false =>
        have HN := Lib.hid (HA.out k x HX.out hq)
        clear hq
        go_wp2
        go_ret
        exact ⟨by rw [HN.out]; rfl, HB1.out⟩
    · obtain rfl : k = ts.length := by omega
      have HN := Lib.hid (HE.out.symm.trans HK.out)
      go_wp2
      go_ret
      exact ⟨by rw [HN.out]; rfl, HB.out⟩

set_option maxHeartbeats 800000 in
theorem right (m : Md) (V : Value) (w : World) (h : ModV w w.heap.size m V) : Calls Tryd.prog 17 #[V] w (Says (okMd m) w) := by
  obtain ⟨C, T, rfl, hC, hT⟩ := h
  have KC := Lib.hid (fun w' hb => allCodes C m.codes w' ((hC.below (w' := w') hb).more hb.size))
  have KT := Lib.hid (fun w' hb => allTexts T m.texts w' ((hT.below (w' := w') hb).more hb.size))
  obtain ⟨AC, cC, vs, rfl, p1, p2, p3, p4⟩ := hC
  obtain ⟨AT, cT, rfl, q1, q2, q3⟩ := hT
  clear p3 p4 q3
  unfold maxLen at p2 q2
  have HN : Hid (¬ (m.codes.length ≤ 64 ∧ m.texts.length ≤ 1024) → okMd m = false) := fun h => by
    rw [← Bool.not_eq_true]
    intro h2
    exact h ⟨(okMd_is h2).1, (okMd_is h2).2.1⟩
  have HY : Hid (m.codes.length ≤ 64 → m.texts.length ≤ 1024 → okMd m = (m.codes.all okCd && m.texts.all okX)) := fun h1 h2 => by simp only [okMd, h1, h2, decide_true, Bool.true_and]
  generalize okMd m = r at *
  by_cases g1 : m.codes.length ≤ 64
  · by_cases g2 : m.texts.length ≤ 1024
    · have hy := HY.out g1 g2
      have B1 := Lib.hid ((Below.refl w.heap.size w).alloc (Nat.le_refl _) (.cells #[.slice AC m.codes.length cC, .slice AT m.texts.length cT] 25))
      have CE : Hid (∀ w', Below (w.heap.size + 1) (w.alloc (.cells #[.slice AC m.codes.length cC, .slice AT m.texts.length cT] 25)) w' → w'.cell? ⟨w.heap.size, 1, none⟩ = some (.slice AT m.texts.length cT)) := fun w' hb => by
        have hx : w'.heap[w.heap.size]? = some (.cells #[.slice AC m.codes.length cC, .slice AT m.texts.length cT] 25) := by rw [hb.block _ (Nat.lt_succ_self _)]; exact heap_alloc_new w _
        rw [cell_of_row _ _ _ _ _ _ hx]; rfl
      have K1 := Lib.hid (KC.out _ B1.out)
      go_enter Tryd.func17, Tryd.ntmps17
      go_wp2_with fail
      refine K1.out.mono ?_
      rintro e w2 ⟨rfl, hb2⟩
      have B2 : Hid (Below w.heap.size w w2) := Lib.hid (B1.out.trans (hb2.mono B1.out.size))
      have K2 := Lib.hid (KT.out _ B2.out)
      have d1 := CE.out _ (hb2.mono (by simp))
      clear K1 hb2
      cases hq : m.codes.all okCd with
      | false =>
        rw [hq] at hy
        go_wp2
        go_ret
        exact ⟨by first | rfl | (rw [hy]; rfl), B2.out⟩
      | true =>
        rw [hq] at hy
        have HYY := Lib.hid hy
        clear hy hq
        go_wp2_with fail
        refine K2.out.mono ?_
        rintro e w3 ⟨rfl, hb3⟩
        have B3 : Hid (Below w.heap.size w w3) := Lib.hid (B2.out.trans (hb3.mono B2.out.size))
        clear hb3 K2
        go_wp2
        go_ret
        exact ⟨by rw [HYY.out]; rfl, B3.out⟩
    · have hr := HN.out (fun h => g2 h.2)
      go_enter Tryd.func17, Tryd.ntmps17
      go_wp2
      go_ret
      exact ⟨by first | rfl | (rw [hr]; rfl), (Below.refl _ _).alloc (Nat.le_refl _) _⟩
  · have hr := HN.out (fun h => g1 h.1)
    go_enter Tryd.func17, Tryd.ntmps17
    go_wp2
    go_ret
    exact ⟨by first | rfl | (rw [hr]; rfl), (Below.refl _ _).alloc (Nat.le_refl _) _⟩

end Go.Proofs.YtecjkmemihmkcaaDoor
