/- The walk of CodeBack: it returns true, and nothing that was there has changed. Conditions: none beyond what its arguments are; the table of signs lies as the program lays it. -/
import Derived.Test.YtecjkmemihmkcaaDoorWc
import Derived.Test.YtecjkmemihmkcaaDoorYe
namespace Go.Proofs.YtecjkmemihmkcaaDoor
set_option maxRecDepth 100000
open Go.RowKit
set_option linter.unusedSimpArgs false
set_option linter.unusedVariables false

/-- two modules in boxes of the call's own, and what else stays -/
structure Bx2 (w : World) (C T C' T' : Value) (w' : World) : Prop where
  one : Bx w C T w'
  two : w'.heap[w.heap.size + 1]? = some (.cells #[C', T'] 25 (0, 0))
theorem Bx2.on {w w' w'' : World} {C T C' T' : Value} (h : Bx2 w C T C' T' w') (hb : Below w'.heap.size w' w'') : Bx2 w C T C' T' w'' := ⟨h.one.on hb, by rw [hb.block _ (lt_of_some h.two)]; exact h.two⟩
theorem Bx2.start (w : World) (C T C' T' : Value) : Bx2 w C T C' T' ((w.alloc (.cells #[C, T] 25)).alloc (.cells #[C', T'] 25)) := by
  refine ⟨(Bx.start w C T).on ((Below.refl _ _).alloc (Nat.le_refl _) _), ?_⟩
  have := heap_alloc_new (w.alloc (.cells #[C, T] 25)) (.cells #[C', T'] 25)
  rw [World.size_alloc] at this
  exact this
theorem Bx2.cells {w w' : World} {C T C' T' : Value} (h : Bx2 w C T C' T' w') : w'.cell? ⟨w.heap.size, 0, none⟩ = some C ∧ w'.cell? ⟨w.heap.size, 1, none⟩ = some T ∧ w'.cell? ⟨w.heap.size + 1, 0, none⟩ = some C' ∧ w'.cell? ⟨w.heap.size + 1, 1, none⟩ = some T' :=
  ⟨h.one.cells.1, h.one.cells.2, by rw [cell_of_row _ _ _ _ _ _ h.two]; rfl, by rw [cell_of_row _ _ _ _ _ _ h.two]; rfl⟩

set_option maxHeartbeats 3200000 in
theorem back_walk (m o : Md) (V V' : Value) (w : World) (h : ModV w w.heap.size m V) (h' : ModV w w.heap.size o V') (hf : MdFit m) (hf' : MdFit o) (ht : Tab w) : Calls Tryd.prog 4 #[V, V'] w (Says true w) := by
  have HM := Lib.hid h
  have HM' := Lib.hid h'
  have HF := Lib.hid hf
  have HF' := Lib.hid hf'
  have HT := Lib.hid ht
  have h0 := ht.1
  obtain ⟨C, T, rfl, hC, hT⟩ := h
  obtain ⟨AC, cC, vs, rfl, p1, p2, p3, p4⟩ := hC
  obtain ⟨AT, cT, rfl, q1, q2, q3⟩ := hT
  obtain ⟨C', T', rfl, hC', hT'⟩ := h'
  obtain ⟨AC', cC', vs', rfl, p1', p2', p3', p4'⟩ := hC'
  obtain ⟨AT', cT', rfl, q1', q2', q3'⟩ := hT'
  clear p3 p4 q3 p3' p4' q3' hf hf' ht
  unfold maxLen at p2 q2 p2' q2'
  have X0 := Lib.hid (Bx2.start w (.slice AC m.codes.length cC) (.slice AT m.texts.length cT) (.slice AC' o.codes.length cC') (.slice AT' o.texts.length cT'))
  have K := Lib.hid (head_true _ (HT.out.below X0.out.one.low h0))
  go_enter Tryd.func4, Tryd.ntmps4
  go_wp2_with fail
  refine K.out.mono ?_
  clear K
  rintro e w1 ⟨rfl, hb1⟩
  have X1 := Lib.hid (X0.out.on hb1)
  obtain ⟨c0, c1, d0, d1⟩ := X1.out.cells
  have K := Lib.hid (great m _ w1 (X1.out.one.mod HM.out))
  clear hb1
  go_wp2_with fail
  refine K.out.mono ?_
  clear K c0 c1 d0 d1
  rintro e w2 ⟨b, rfl, hb2⟩
  have X2 := Lib.hid (X1.out.on hb2)
  clear hb2
  cases b with
  | true =>
    go_wp2
    go_ret
    exact ⟨rfl, X2.out.one.low⟩
  | false =>
    obtain ⟨c0, c1, d0, d1⟩ := X2.out.cells
    have K := Lib.hid (great o _ w2 (X2.out.one.mod HM'.out))
    go_wp2_with fail
    refine K.out.mono ?_
    clear K c0 c1 d0 d1
    rintro e w3 ⟨b, rfl, hb3⟩
    have X3 := Lib.hid (X2.out.on hb3)
    clear hb3
    cases b with
    | true =>
      go_wp2
      go_ret
      exact ⟨rfl, X3.out.one.low⟩
    | false =>
      obtain ⟨c0, c1, d0, d1⟩ := X3.out.cells
      have K := Lib.hid (put m _ w3 (X3.out.one.mod HM.out) (fun c hc => (HF.out.codes c hc).name))
      go_wp2_with fail
      refine K.out.mono ?_
      clear K c0 c1 d0 d1
      rintro e w4 ⟨hb4, ⟨hok, A3, c3, rfl, j1, j2, j3, _⟩ | ⟨hno, rfl⟩⟩
      · have X4 := Lib.hid (X3.out.on hb4)
        obtain ⟨c0, c1, d0, d1⟩ := X4.out.cells
        have L4 := Lib.hid j3
        have HOK := Lib.hid hok
        have K := Lib.hid (right m _ w4 (X4.out.one.mod HM.out))
        rw [hok] at K
        have J2 := Lib.hid j2
        unfold maxLen at j2
        clear hb4 j3 hok
        go_wp2_with fail
        refine K.out.mono ?_
        clear K c0 c1 d0 d1
        rintro e w5 ⟨rfl, hb5⟩
        have X5 := Lib.hid (X4.out.on hb5)
        have L5 := Lib.hid ((L4.out.below hb5).more hb5.size)
        have K := Lib.hid (get A3 (mdB m) c3 w5 j1 J2.out L5.out (mdB_byt HF.out))
        have GP := Lib.hid (get_put HF.out HOK.out)
        clear hb5 L4
        go_wp2_with fail
        refine K.out.mono ?_
        clear K
        rintro e w6 ⟨hb6, ⟨m', q, VB, hm, rfl, hV, _⟩ | ⟨E, hE, hne, rfl⟩⟩
        · rw [GP.out] at hm
          injection hm with hm _
          subst hm
          have VB0 := Lib.hid hV
          have X6 := Lib.hid (X5.out.on hb6)
          have L6 := Lib.hid ((L5.out.below hb6).more hb6.size)
          obtain ⟨CB, TB, rfl, ⟨AB, cB, vsB, rfl, k1, k2, _⟩, ⟨ATB, cTB, rfl, k3, k4, _⟩⟩ := hV
          unfold maxLen at k2 k4
          clear hb6
          have hb7 : Below w6.heap.size w6 (w6.alloc (.cells #[.slice AB m.codes.length cB, .slice ATB m.texts.length cTB] 25)) := (Below.refl _ _).alloc (Nat.le_refl _) _
          have X7 := Lib.hid (X6.out.on hb7)
          obtain ⟨c0, c1, d0, d1⟩ := X7.out.cells
          have L7 := Lib.hid ((L6.out.below hb7).more hb7.size)
          have VB7 := Lib.hid ((VB0.out.below hb7).more hb7.size)
          have Q7 : Hid ((w6.alloc (.cells #[.slice AB m.codes.length cB, .slice ATB m.texts.length cTB] 25)).heap[w6.heap.size]? = some (.cells #[.slice AB m.codes.length cB, .slice ATB m.texts.length cTB] 25 (0, 0))) := Lib.hid (heap_alloc_new w6 _)
          have K := Lib.hid (put o _ _ (X7.out.one.mod HM'.out) (fun c hc => (HF'.out.codes c hc).name))
          clear hb7
          go_wp2_with fail
          refine K.out.mono ?_
          clear K c0 c1 d0 d1
          generalize w6.alloc (.cells #[.slice AB m.codes.length cB, .slice ATB m.texts.length cTB] 25) = w7 at *
          generalize w6.heap.size = b8 at *
          rintro e w8 ⟨hb8, hput⟩
          have X8 := Lib.hid (X7.out.on hb8)
          have L8 := Lib.hid ((L7.out.below hb8).more hb8.size)
          have VB8 := Lib.hid ((VB7.out.below hb8).more hb8.size)
          have Q8 : Hid (w8.heap[b8]? = some (.cells #[.slice AB m.codes.length cB, .slice ATB m.texts.length cTB] 25 (0, 0))) := Lib.hid (by rw [hb8.block _ (lt_of_some Q7.out)]; exact Q7.out)
          clear hb8 L5 L6 L7 VB7 VB0 Q7 X4 X5 X6 X7 X3 X2 X1 X0
          have KS : Hid (∀ x, Below w8.heap.size w8 x → Calls Tryd.prog 16 #[.agg #[.slice AB m.codes.length cB, .slice ATB m.texts.length cTB], .agg #[.slice AC m.codes.length cC, .slice AT m.texts.length cT]] x (Says true x)) := fun x hx => sameMods m m _ _ x ((VB8.out.below hx).more hx.size) ((X8.out.on hx).one.mod HM.out) (fun c hc => (HF.out.codes c hc).name) (fun c hc => (HF.out.codes c hc).name) HF.out.texts HF.out.texts true (by simp)
          have KT : Hid (∀ r : Bool, (r = true ↔ m = o) → ∀ x, Below w8.heap.size w8 x → Calls Tryd.prog 16 #[.agg #[.slice AC m.codes.length cC, .slice AT m.texts.length cT], .agg #[.slice AC' o.codes.length cC', .slice AT' o.texts.length cT']] x (Says r x)) := fun r hr x hx => sameMods m o _ _ x ((X8.out.on hx).one.mod HM.out) ((HM'.out.below (X8.out.on hx).one.low).more (X8.out.on hx).one.low.size) (fun c hc => (HF.out.codes c hc).name) (fun c hc => (HF'.out.codes c hc).name) HF.out.texts HF'.out.texts r hr
          have B0 : Hid (Below w8.heap.size w8 w8.drew) := (Below.refl _ _).drew
          have CF : Hid (∀ x, Below w8.heap.size w8 x → x.cell? ⟨b8, 0, none⟩ = some (.slice AB m.codes.length cB) ∧ x.cell? ⟨b8, 1, none⟩ = some (.slice ATB m.texts.length cTB) ∧ x.cell? ⟨w.heap.size, 0, none⟩ = some (.slice AC m.codes.length cC) ∧ x.cell? ⟨w.heap.size, 1, none⟩ = some (.slice AT m.texts.length cT) ∧ x.cell? ⟨w.heap.size + 1, 0, none⟩ = some (.slice AC' o.codes.length cC') ∧ x.cell? ⟨w.heap.size + 1, 1, none⟩ = some (.slice AT' o.texts.length cT')) := fun x hx => by
            have q : x.heap[b8]? = some (.cells #[.slice AB m.codes.length cB, .slice ATB m.texts.length cTB] 25 (0, 0)) := by rw [hx.block _ (lt_of_some Q8.out)]; exact Q8.out
            have X := (X8.out.on hx).cells
            exact ⟨by rw [cell_of_row _ _ _ _ _ _ q]; rfl, by rw [cell_of_row _ _ _ _ _ _ q]; rfl, X.1, X.2.1, X.2.2.1, X.2.2.2⟩
          obtain ⟨hok', A8, c8, rfl, j1', j2', j3', _⟩ | ⟨hno, rfl⟩ := hput
          · unfold maxLen at j2'
            have L9 := Lib.hid j3'
            have CV : Hid (∀ x, Below w8.heap.size w8 x → (convert 26 9 (.slice A3 (mdB m).length c3)).run Tryd.prog x = .ok (.string (strOfNums (mdB m))) x ∧ (convert 26 9 (.slice A8 (mdB o).length c8)).run Tryd.prog x = .ok (.string (strOfNums (mdB o))) x) := fun x hx =>
              ⟨run_string_lies (P := Tryd.prog) x 26 9 5 Tryd.underlying26 Tryd.underlying5 Tryd.underlying9 w8.heap.size A3 (mdB m).length c3 (mdB m) rfl (L8.out.below hx), run_string_lies (P := Tryd.prog) x 26 9 5 Tryd.underlying26 Tryd.underlying5 Tryd.underlying9 w8.heap.size A8 (mdB o).length c8 (mdB o) rfl (L9.out.below hx)⟩
            have SA := Lib.hid (fun x hx => And.intro (CF.out x hx) (CV.out x hx))
            have he := str_eq (mdB_byt HF.out) (mdB_byt HF'.out)
            clear j3' L9 L8
            go_upto_region 11 with fail
            have HPI : Hid (mdB m = mdB o → m = o) := fun h => put_inj HF.out HF'.out HOK.out hok' h
            obtain ⟨dd, hdd⟩ : ∃ d, decide (mdB m = mdB o) = d := ⟨_, rfl⟩
            have HD : Hid (dd = true ↔ m = o) := by
              rw [← hdd, decide_eq_true_iff]
              exact ⟨HPI.out, fun h => by rw [h]⟩
            rw [hdd] at he
            clear hdd HPI
            generalize (mdB m).length = l1 at *
            generalize (mdB o).length = l2 at *
            generalize strOfNums (mdB m) = s1 at *
            generalize strOfNums (mdB o) = s2 at *
            by_cases hmo : m = o
            · have KR := Lib.hid (KT.out true (by simp [hmo]))
              obtain rfl := HD.out.2 hmo
              clear hmo
              go_region_held3 (fun x => (x.cell? ⟨b8, 0, none⟩ = some (.slice AB m.codes.length cB) ∧ x.cell? ⟨b8, 1, none⟩ = some (.slice ATB m.texts.length cTB) ∧ x.cell? ⟨w.heap.size, 0, none⟩ = some (.slice AC m.codes.length cC) ∧ x.cell? ⟨w.heap.size, 1, none⟩ = some (.slice AT m.texts.length cT) ∧ x.cell? ⟨w.heap.size + 1, 0, none⟩ = some (.slice AC' o.codes.length cC') ∧ x.cell? ⟨w.heap.size + 1, 1, none⟩ = some (.slice AT' o.texts.length cT')) ∧ ((convert 26 9 (.slice A3 l1 c3)).run Tryd.prog x = .ok (.string (s1)) x ∧ (convert 26 9 (.slice A8 l2 c8)).run Tryd.prog x = .ok (.string (s2)) x))
                  (first | with_reducible exact SA.out _ B0.out | with_reducible exact SA.out _ B10.out | with_reducible exact SA.out _ B9.out)
                  (first
                    | (go_at_call 16; have hzz := B9.out; clear hzz; refine (KR.out _ B9.out).mono ?_; rintro e w10 ⟨rfl, hb10⟩; have B10 := Lib.hid (B9.out.trans (hb10.mono B9.out.size)); clear hb10)
                    | (go_at_call 16; refine (KS.out _ B0.out).mono ?_; rintro e w9 ⟨rfl, hb9⟩; have B9 := Lib.hid (B0.out.trans (hb9.mono B0.out.size)); clear hb9))
              go_wp2
              go_ret
              exact ⟨rfl, (X8.out.on B10.out).one.low⟩
            · have KR := Lib.hid (KT.out false (by simp [hmo]))
              obtain rfl : dd = false := by
                cases dd with
                | true => exact absurd (HD.out.1 rfl) hmo
                | false => rfl
              clear hmo
              go_region_held3 (fun x => (x.cell? ⟨b8, 0, none⟩ = some (.slice AB m.codes.length cB) ∧ x.cell? ⟨b8, 1, none⟩ = some (.slice ATB m.texts.length cTB) ∧ x.cell? ⟨w.heap.size, 0, none⟩ = some (.slice AC m.codes.length cC) ∧ x.cell? ⟨w.heap.size, 1, none⟩ = some (.slice AT m.texts.length cT) ∧ x.cell? ⟨w.heap.size + 1, 0, none⟩ = some (.slice AC' o.codes.length cC') ∧ x.cell? ⟨w.heap.size + 1, 1, none⟩ = some (.slice AT' o.texts.length cT')) ∧ ((convert 26 9 (.slice A3 l1 c3)).run Tryd.prog x = .ok (.string (s1)) x ∧ (convert 26 9 (.slice A8 l2 c8)).run Tryd.prog x = .ok (.string (s2)) x))
                  (first | with_reducible exact SA.out _ B0.out | with_reducible exact SA.out _ B10.out | with_reducible exact SA.out _ B9.out)
                  (first
                    | (go_at_call 16; have hzz := B9.out; clear hzz; refine (KR.out _ B9.out).mono ?_; rintro e w10 ⟨rfl, hb10⟩; have B10 := Lib.hid (B9.out.trans (hb10.mono B9.out.size)); clear hb10)
                    | (go_at_call 16; refine (KS.out _ B0.out).mono ?_; rintro e w9 ⟨rfl, hb9⟩; have B9 := Lib.hid (B0.out.trans (hb9.mono B0.out.size)); clear hb9))
              go_wp2
              go_ret
              exact ⟨rfl, (X8.out.on B10.out).one.low⟩
          · go_upto_region 11 with fail
            refine wp_region_noPanic ?_
            refine wp_region_held_drew (S := fun x => x.cell? ⟨b8, 0, none⟩ = some (.slice AB m.codes.length cB) ∧ x.cell? ⟨b8, 1, none⟩ = some (.slice ATB m.texts.length cTB) ∧ x.cell? ⟨w.heap.size, 0, none⟩ = some (.slice AC m.codes.length cC) ∧ x.cell? ⟨w.heap.size, 1, none⟩ = some (.slice AT m.texts.length cT) ∧ x.cell? ⟨w.heap.size + 1, 0, none⟩ = some (.slice AC' o.codes.length cC') ∧ x.cell? ⟨w.heap.size + 1, 1, none⟩ = some (.slice AT' o.texts.length cT')) (by kernel_rfl) (CF.out _ B0.out) (fun hHeld => ?_)
            refine wpAnyH_take (i := 0) (v := ?v0) rfl (by kernel_rfl) (by kernel_rfl) (by kernel_rfl) (fun _ _ _ h => h) (Or.inl ⟨by kernel_rfl, ?y0⟩) (by assumption) ?r0
            case y0 => (intro w hSw; (try dsimp only at hSw); go_simp; (try with_reducible rfl))
            try simp only [Act.put, List.getElem_toArray, List.getElem_cons_zero, List.getElem_cons_succ, List.setIfInBounds_toArray, List.set_cons_zero, List.set_cons_succ]
            refine wpAnyH_take (i := 1) (v := ?v1) rfl (by kernel_rfl) (by kernel_rfl) (by kernel_rfl) (fun _ _ _ h => h) (Or.inl ⟨by kernel_rfl, ?y1⟩) (by assumption) ?r1
            case y1 => (intro w hSw; (try dsimp only at hSw); go_simp; (try with_reducible rfl))
            try simp only [Act.put, List.getElem_toArray, List.getElem_cons_zero, List.getElem_cons_succ, List.setIfInBounds_toArray, List.set_cons_zero, List.set_cons_succ]
            refine wpAnyH_take (i := 2) (v := ?v2) rfl (by kernel_rfl) (by kernel_rfl) (by kernel_rfl) (fun _ _ _ h => h) (Or.inl ⟨by kernel_rfl, ?y2⟩) (by assumption) ?r2
            case y2 => (intro w hSw; (try dsimp only at hSw); go_simp; (try with_reducible rfl))
            try simp only [Act.put, List.getElem_toArray, List.getElem_cons_zero, List.getElem_cons_succ, List.setIfInBounds_toArray, List.set_cons_zero, List.set_cons_succ]
            refine wpAnyH_take (i := 3) (v := ?v3) rfl (by kernel_rfl) (by kernel_rfl) (by kernel_rfl) (fun _ _ _ h => h) (Or.inl ⟨by kernel_rfl, ?y3⟩) (by assumption) ?r3
            case y3 => (intro w hSw; (try dsimp only at hSw); go_simp; (try with_reducible rfl))
            try simp only [Act.put, List.getElem_toArray, List.getElem_cons_zero, List.getElem_cons_succ, List.setIfInBounds_toArray, List.set_cons_zero, List.set_cons_succ]
            refine wpAnyH_take (i := 4) (v := ?v4) rfl (by kernel_rfl) (by kernel_rfl) (by kernel_rfl) (fun _ _ _ h => h) (Or.inl ⟨by kernel_rfl, ?y4⟩) (by assumption) ?r4
            case y4 => (intro w hSw; (try dsimp only at hSw); go_simp; (try with_reducible rfl))
            try simp only [Act.put, List.getElem_toArray, List.getElem_cons_zero, List.getElem_cons_succ, List.setIfInBounds_toArray, List.set_cons_zero, List.set_cons_succ]
            refine wpAnyH_take (i := 5) (v := ?v5) rfl (by kernel_rfl) (by kernel_rfl) (by kernel_rfl) (fun _ _ _ h => h) (Or.inl ⟨by kernel_rfl, ?y5⟩) (by assumption) ?r5
            case y5 => (intro w hSw; (try dsimp only at hSw); go_simp; (try with_reducible rfl))
            try simp only [Act.put, List.getElem_toArray, List.getElem_cons_zero, List.getElem_cons_succ, List.setIfInBounds_toArray, List.set_cons_zero, List.set_cons_succ]
            refine wpAnyH_take (i := 6) (v := ?v6) rfl (by kernel_rfl) (by kernel_rfl) (by kernel_rfl) (fun _ _ _ h => h) (Or.inl ⟨by kernel_rfl, ?y6⟩) (by assumption) ?r6
            case y6 => (intro w hSw; (try dsimp only at hSw); go_simp; (try with_reducible rfl))
            try simp only [Act.put, List.getElem_toArray, List.getElem_cons_zero, List.getElem_cons_succ, List.setIfInBounds_toArray, List.set_cons_zero, List.set_cons_succ]
            refine wpAnyH_take (i := 7) (v := ?v7) rfl (by kernel_rfl) (by kernel_rfl) (by kernel_rfl) (fun _ _ _ h => h) (Or.inl ⟨by kernel_rfl, ?y7⟩) (by assumption) ?r7
            case y7 => (intro w hSw; (try dsimp only at hSw); go_simp; (try with_reducible rfl))
            try simp only [Act.put, List.getElem_toArray, List.getElem_cons_zero, List.getElem_cons_succ, List.setIfInBounds_toArray, List.set_cons_zero, List.set_cons_succ]
            refine wpAnyH_ready (rs := [8]) (by kernel_rfl) (by simp) ?_
            refine AllReadyH.cons rfl (fun K hK => ?_) AllReadyH.nil
            go_simp
            refine (KS.out _ B0.out).mono ?_
            rintro e w9 ⟨rfl, hb9⟩
            have B9 := Lib.hid (B0.out.trans (hb9.mono B0.out.size))
            clear hb9
            refine hK.out _ _ (CF.out _ B9.out) (fun hHeld9 => ?_)
            clear hK K hHeld
            try simp only [Act.put, List.getElem_toArray, List.getElem_cons_zero, List.getElem_cons_succ, List.setIfInBounds_toArray, List.set_cons_zero, List.set_cons_succ]
            refine wpAnyH_take (i := 9) (v := ?v9) rfl (by kernel_rfl) (by kernel_rfl) (by kernel_rfl) (fun _ _ _ h => h) (Or.inl ⟨by kernel_rfl, ?y9⟩) (by assumption) ?r9
            case y9 => (intro w hSw; (try dsimp only at hSw); go_simp; (try with_reducible rfl))
            try simp only [Act.put, List.getElem_toArray, List.getElem_cons_zero, List.getElem_cons_succ, List.setIfInBounds_toArray, List.set_cons_zero, List.set_cons_succ]
            refine wpAnyH_take (i := 10) (v := ?v10) rfl (by kernel_rfl) (by kernel_rfl) (by kernel_rfl) (fun _ _ _ h => h) (Or.inl ⟨by kernel_rfl, ?y10⟩) (by assumption) ?r10
            case y10 => (intro w hSw; (try dsimp only at hSw); go_simp; (try with_reducible rfl))
            try simp only [Act.put, List.getElem_toArray, List.getElem_cons_zero, List.getElem_cons_succ, List.setIfInBounds_toArray, List.set_cons_zero, List.set_cons_succ]
            refine wpAnyH_take (i := 11) (v := ?v11) rfl (by kernel_rfl) (by kernel_rfl) (by kernel_rfl) (fun _ _ _ h => h) (Or.inl ⟨by kernel_rfl, ?y11⟩) (by assumption) ?r11
            case y11 => (intro w hSw; (try dsimp only at hSw); go_simp; (try with_reducible rfl))
            try simp only [Act.put, List.getElem_toArray, List.getElem_cons_zero, List.getElem_cons_succ, List.setIfInBounds_toArray, List.set_cons_zero, List.set_cons_succ]
            refine wpAnyH_take (i := 12) (v := ?v12) rfl (by kernel_rfl) (by kernel_rfl) (by kernel_rfl) (fun _ _ _ h => h) (Or.inl ⟨by kernel_rfl, ?y12⟩) (by assumption) ?r12
            case y12 => (intro w hSw; (try dsimp only at hSw); go_simp; (try with_reducible rfl))
            try simp only [Act.put, List.getElem_toArray, List.getElem_cons_zero, List.getElem_cons_succ, List.setIfInBounds_toArray, List.set_cons_zero, List.set_cons_succ]
            refine wpAnyH_take (i := 13) (v := ?v13) rfl (by kernel_rfl) (by kernel_rfl) (by kernel_rfl) (fun _ _ _ h => h) (Or.inl ⟨by kernel_rfl, ?y13⟩) (by assumption) ?r13
            case y13 => (intro w hSw; (try dsimp only at hSw); go_simp; (try with_reducible rfl))
            try simp only [Act.put, List.getElem_toArray, List.getElem_cons_zero, List.getElem_cons_succ, List.setIfInBounds_toArray, List.set_cons_zero, List.set_cons_succ]
            refine wpAnyH_take (i := 14) (v := undef) rfl (by kernel_rfl) (by kernel_rfl) (by kernel_rfl) (fun _ _ _ h => h) (Or.inr ⟨by kernel_rfl, rfl⟩) (by assumption) ?_
            try simp only [Act.put, List.getElem_toArray, List.getElem_cons_zero, List.getElem_cons_succ, List.setIfInBounds_toArray, List.set_cons_zero, List.set_cons_succ]
            refine wpAnyH_take (i := 15) (v := undef) rfl (by kernel_rfl) (by kernel_rfl) (by kernel_rfl) (fun _ _ _ h => h) (Or.inr ⟨by kernel_rfl, rfl⟩) (by assumption) ?_
            try simp only [Act.put, List.getElem_toArray, List.getElem_cons_zero, List.getElem_cons_succ, List.setIfInBounds_toArray, List.set_cons_zero, List.set_cons_succ]
            refine wpAnyH_take (i := 16) (v := undef) rfl (by kernel_rfl) (by kernel_rfl) (by kernel_rfl) (fun _ _ _ h => h) (Or.inr ⟨by kernel_rfl, rfl⟩) (by assumption) ?_
            try simp only [Act.put, List.getElem_toArray, List.getElem_cons_zero, List.getElem_cons_succ, List.setIfInBounds_toArray, List.set_cons_zero, List.set_cons_succ]
            refine wpAnyH_take (i := 17) (v := undef) rfl (by kernel_rfl) (by kernel_rfl) (by kernel_rfl) (fun _ _ _ h => h) (Or.inr ⟨by kernel_rfl, rfl⟩) (by assumption) ?_
            try simp only [Act.put, List.getElem_toArray, List.getElem_cons_zero, List.getElem_cons_succ, List.setIfInBounds_toArray, List.set_cons_zero, List.set_cons_succ]
            refine wpAnyH_take (i := 18) (v := undef) rfl (by kernel_rfl) (by kernel_rfl) (by kernel_rfl) (fun _ _ _ h => h) (Or.inr ⟨by kernel_rfl, rfl⟩) (by assumption) ?_
            try simp only [Act.put, List.getElem_toArray, List.getElem_cons_zero, List.getElem_cons_succ, List.setIfInBounds_toArray, List.set_cons_zero, List.set_cons_succ]
            refine wpAnyH_take (i := 19) (v := undef) rfl (by kernel_rfl) (by kernel_rfl) (by kernel_rfl) (fun _ _ _ h => h) (Or.inr ⟨by kernel_rfl, rfl⟩) (by assumption) ?_
            try simp only [Act.put, List.getElem_toArray, List.getElem_cons_zero, List.getElem_cons_succ, List.setIfInBounds_toArray, List.set_cons_zero, List.set_cons_succ]
            refine wpAnyH_take (i := 20) (v := undef) rfl (by kernel_rfl) (by kernel_rfl) (by kernel_rfl) (fun _ _ _ h => h) (Or.inr ⟨by kernel_rfl, rfl⟩) (by assumption) ?_
            try simp only [Act.put, List.getElem_toArray, List.getElem_cons_zero, List.getElem_cons_succ, List.setIfInBounds_toArray, List.set_cons_zero, List.set_cons_succ]
            refine wpAnyH_take (i := 21) (v := undef) rfl (by kernel_rfl) (by kernel_rfl) (by kernel_rfl) (fun _ _ _ h => h) (Or.inr ⟨by kernel_rfl, rfl⟩) (by assumption) ?_
            try simp only [Act.put, List.getElem_toArray, List.getElem_cons_zero, List.getElem_cons_succ, List.setIfInBounds_toArray, List.set_cons_zero, List.set_cons_succ]
            refine wpAnyH_take (i := 22) (v := undef) rfl (by kernel_rfl) (by kernel_rfl) (by kernel_rfl) (fun _ _ _ h => h) (Or.inr ⟨by kernel_rfl, rfl⟩) (by assumption) ?_
            try simp only [Act.put, List.getElem_toArray, List.getElem_cons_zero, List.getElem_cons_succ, List.setIfInBounds_toArray, List.set_cons_zero, List.set_cons_succ]
            refine wpAnyH_take (i := 23) (v := ?v23) rfl (by kernel_rfl) (by kernel_rfl) (by kernel_rfl) (fun _ _ _ h => h) (Or.inl ⟨by kernel_rfl, ?y23⟩) (by assumption) ?r23
            case y23 => (intro w hSw; (try dsimp only at hSw); go_simp; (try with_reducible rfl))
            try simp only [Act.put, List.getElem_toArray, List.getElem_cons_zero, List.getElem_cons_succ, List.setIfInBounds_toArray, List.set_cons_zero, List.set_cons_succ]
            refine wpAnyH_take (i := 24) (v := ?v24) rfl (by kernel_rfl) (by kernel_rfl) (by kernel_rfl) (fun _ _ _ h => h) (Or.inl ⟨by kernel_rfl, ?y24⟩) (by assumption) ?r24
            case y24 => (intro w hSw; (try dsimp only at hSw); go_simp; (try with_reducible rfl))
            try simp only [Act.put, List.getElem_toArray, List.getElem_cons_zero, List.getElem_cons_succ, List.setIfInBounds_toArray, List.set_cons_zero, List.set_cons_succ]
            refine wpAnyH_take (i := 25) (v := ?v25) rfl (by kernel_rfl) (by kernel_rfl) (by kernel_rfl) (fun _ _ _ h => h) (Or.inl ⟨by kernel_rfl, ?y25⟩) (by assumption) ?r25
            case y25 => (intro w hSw; (try dsimp only at hSw); go_simp; (try with_reducible rfl))
            try simp only [Act.put, List.getElem_toArray, List.getElem_cons_zero, List.getElem_cons_succ, List.setIfInBounds_toArray, List.set_cons_zero, List.set_cons_succ]
            refine wpAnyH_done (by kernel_rfl) ?_ _
            refine NoPanic.normal ?_
            clear hHeld9
            go_wp2
            go_ret
            exact ⟨rfl, (X8.out.on B9.out).one.low⟩
        · rw [GP.out] at hE
          cases hE
      · have X4 := Lib.hid (X3.out.on hb4)
        obtain ⟨c0, c1, d0, d1⟩ := X4.out.cells
        have K := Lib.hid (right m _ w4 (X4.out.one.mod HM.out))
        rw [hno] at K
        clear hb4
        go_wp2_with fail
        refine K.out.mono ?_
        clear K c0 c1 d0 d1
        rintro e w5 ⟨rfl, hb5⟩
        have X5 := Lib.hid (X4.out.on hb5)
        clear hb5
        go_wp2
        go_ret
        exact ⟨rfl, X5.out.one.low⟩

end Go.Proofs.YtecjkmemihmkcaaDoor
