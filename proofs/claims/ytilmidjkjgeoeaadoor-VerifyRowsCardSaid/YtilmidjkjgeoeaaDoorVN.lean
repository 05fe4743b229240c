/- What an instruction does, one by one. Conditions: those in each theorem. -/
import Derived.Test.YtilmidjkjgeoeaaDoorVM
namespace Go.Proofs.YtilmidjkjgeoeaaDoor
open Go.RowKit Go.MapKept
set_option maxRecDepth 100000
set_option linter.unusedVariables false
set_option linter.unusedSimpArgs false
theorem Ef0.st_lt {B W St : Nat} {x : Wx} {S : List (List Int)} {L V R : Value} {s : Sv} {P : Pv} {cs : List Cd} {k a : Int} {w w1 : World} (h : Ef0 B W St x S L V R s P cs k a w w1) : St < w1.heap.size := by
  obtain ⟨n, xs, h1, _⟩ := h.p.st.st
  exact lt_someV h1
theorem tyat_new {w : World} {St : Nat} (want : List Int) (hSt : St < w.heap.size) (hn : want.length ≤ 1000) : TyAt (w.alloc (.cells (want.map (Value.int .i64)).toArray 27)).drew St (.slice (some ⟨w.heap.size, 0, none⟩) want.length want.length) want := by
  have hA := heap_alloc_newD w (.cells (want.map (Value.int .i64)).toArray 27)
  refine ⟨_, _, rfl, Nat.le_refl _, by unfold maxLen; omega, fun j t hj => ⟨w.heap.size, 0, rfl, by omega, lt_someV hA, ?_⟩⟩
  rw [Nat.zero_add]
  exact cell_at hA (by simp [hj])
/-- what is popped is what comes of it -/
theorem Ef0.pops {B W St : Nat} {x : Wx} {S : List (List Int)} {L V R : Value} {s : Sv} {P : Pv} {cs : List Cd} {k a : Int} {w w1 : World} (h : Ef0 B W St x S L V R s P cs k a w w1) (want : List Int) (hn : want.length ≤ 1000) (hty : ∀ t ∈ want, okTy t) :
    EfS W w.heap.size k a x (w1.alloc (.cells (want.map (Value.int .i64)).toArray 27)).drew ∧
    Calls Tryd.prog 43 #[.pointer (some ⟨W, 0, none⟩), .pointer (some ⟨St, 0, none⟩), .slice (some ⟨w1.heap.size, 0, none⟩) want.length want.length] (w1.alloc (.cells (want.map (Value.int .i64)).toArray 27)).drew fun r w' => EfS W w.heap.size k a x w' ∧ (∃ b, r = .returned (.bool b)) ∧ EffQ B W St x S V R (popV s want) w r w' := by
  have hb := below_allocD w1 (.cells (want.map (Value.int .i64)).toArray 27)
  have hs := h.p.st.on hb
  refine ⟨h.e.below h.hW hb, ?_⟩
  refine (popAllS want _ hs (tyat_new want h.st_lt hn) hty).mono ?_
  rintro r w' ⟨hg, hq⟩
  have hm : Mt B tsP w w' := (h.mt.trans (.of hb h.hB1)).trans (mt_st hs hg)
  refine ⟨(h.e.below h.hW hb).grown hs hg, ?_, ?_⟩
  · rcases hq with ⟨e, _⟩ | ⟨e, _⟩ <;> exact ⟨_, e⟩
  · rcases hq with ⟨rfl, s', e1, e2⟩ | ⟨rfl, e1⟩
    · rw [e1]; exact eff_same e2 hm
    · rw [e1]; exact eff_none hm
theorem Ef0.repl {B W St : Nat} {x : Wx} {S : List (List Int)} {L V R : Value} {s : Sv} {P : Pv} {cs : List Cd} {k a : Int} {w w1 : World} (h : Ef0 B W St x S L V R s P cs k a w w1) (t u : Int) (ht : okTy t) (hu : okTy u) :
    Calls Tryd.prog 42 #[.pointer (some ⟨W, 0, none⟩), .pointer (some ⟨St, 0, none⟩), .int .i64 t, .int .i64 u] w1 fun r w' => (∃ b, r = .returned (.bool b)) ∧ EffQ B W St x S V R ((popV s [t]).map (pushV · u)) w r w' := by
  refine (replaceS t u h.p.st ht hu h.p.hl).mono ?_
  intro r w' hq
  rcases hq with ⟨s', g1, g2, rfl, E', S', L', q1, q2, q3, q4⟩ | ⟨g1, rfl, g2⟩
  · exact ⟨⟨_, rfl⟩, .inl ⟨s', g1, g2, rfl, E', S', L', q1, q2, q3, h.mt.trans q4⟩⟩
  · exact ⟨⟨_, rfl⟩, .inr ⟨g1, rfl, h.mt.trans g2⟩⟩
set_option maxHeartbeats 1600000 in
theorem eff3 {B W St : Nat} {x : Wx} {S : List (List Int)} {L V R : Value} {s : Sv} {P : Pv} {cs : List Cd} {w : World} (a : Int) (h : EfP B W St x S L V R s P cs w) :
    Calls Tryd.prog 26 #[.pointer (some ⟨W, 0, none⟩), .pointer (some ⟨St, 0, none⟩), .agg #[.int .i64 3, .int .i64 a]] w (EfQ B W St x S V R P 3 a s w) := by
  have h0 := ef0 h 3 a
  obtain ⟨w1, hw1⟩ : ∃ w1, w.alloc (.cells #[.int .i64 3, .int .i64 a] 35) = w1 := ⟨_, rfl⟩
  rw [hw1] at h0
  have HW := Lib.hid hw1
  obtain ⟨b0, b1, _⟩ := h0.e.all
  have HS : Hid (EfS W w.heap.size 3 a x w1.drew) := Lib.hid h0.drew.e
  have K1 := Lib.hid (h0.drew.push 2 (.inr (by unfold okTy; decide)))
  have H0 := Lib.hid h0
  clear h h0 hw1
  by_cases ha : 0 ≤ a ∧ a < 2
  · have HE : Hid (stepV P (3, a) s = some (pushV s 2)) := by
      show _ = _
      unfold stepV
      simp only [show ¬ ((3 : Int) = 1) by decide, show ¬ ((3 : Int) = 2) by decide, if_false, if_true]
      rw [if_pos (by omega)]
    have K0 := Lib.hid (withinY a 2 w1.drew ha)
    unfold EfQ
    rw [HE.out]
    go_enter Tryd.func26, Tryd.ntmps26
    go_upto_region 1 with fail
    rw [HW.out]
    go_upto_region 7 with fail
    refine wp_region_held_drew (S := fun w' => EfS W w.heap.size 3 a x w') (by kernel_rfl) HS.out (fun hHeld => ?_)
    refine wpAnyH_take (i := 0) (v := ?v0_1) rfl (by kernel_rfl) (by kernel_rfl) (by kernel_rfl) (fun _ _ _ h => h) (Or.inl ⟨by kernel_rfl, ?y0_1⟩) (by assumption) ?r0_1
    case y0_1 => (intro w hSw; (try dsimp only at hSw); go_simp; (try with_reducible rfl))
    try simp only [Act.put, List.getElem_toArray, List.getElem_cons_zero, List.getElem_cons_succ, List.setIfInBounds_toArray, List.set_cons_zero, List.set_cons_succ]
    refine wpAnyH_take (i := 1) (v := ?v1_2) rfl (by kernel_rfl) (by kernel_rfl) (by kernel_rfl) (fun _ _ _ h => h) (Or.inl ⟨by kernel_rfl, ?y1_2⟩) (by assumption) ?r1_2
    case y1_2 => (intro w hSw; obtain ⟨q0, q1, q2, q3, q7⟩ := hSw.all; (try dsimp only at hSw); go_simp; (try with_reducible rfl))
    try simp only [Act.put, List.getElem_toArray, List.getElem_cons_zero, List.getElem_cons_succ, List.setIfInBounds_toArray, List.set_cons_zero, List.set_cons_succ]
    refine wpAnyH_ready (rs := [2]) (by kernel_rfl) (by simp) ?_
    refine AllReadyH.cons rfl (fun K hK => ?_) AllReadyH.nil
    go_simp
    refine K0.out.mono ?_
    rintro r w2 ⟨rfl, rfl⟩
    refine hK.out _ _ HS.out (fun hHeld => ?_)
    clear hK K
    refine wpAnyH_take (i := 3) (v := ?v3_32) rfl (by kernel_rfl) (by kernel_rfl) (by kernel_rfl) (fun _ _ _ h => h) (Or.inl ⟨by kernel_rfl, ?y3_32⟩) (by assumption) ?r3_32
    case y3_32 => (intro w hSw; (try dsimp only at hSw); go_simp; (try with_reducible rfl))
    try simp only [Act.put, List.getElem_toArray, List.getElem_cons_zero, List.getElem_cons_succ, List.setIfInBounds_toArray, List.set_cons_zero, List.set_cons_succ]
    refine wpAnyH_take (i := 4) (v := ?v4_33) rfl (by kernel_rfl) (by kernel_rfl) (by kernel_rfl) (fun _ _ _ h => h) (Or.inl ⟨by kernel_rfl, ?y4_33⟩) (by assumption) ?r4_33
    case y4_33 => (intro w hSw; (try dsimp only at hSw); go_simp; (try with_reducible rfl))
    try simp only [Act.put, List.getElem_toArray, List.getElem_cons_zero, List.getElem_cons_succ, List.setIfInBounds_toArray, List.set_cons_zero, List.set_cons_succ]
    refine wpAnyH_take (i := 5) (v := ?v5_34) rfl (by kernel_rfl) (by kernel_rfl) (by kernel_rfl) (fun _ _ _ h => h) (Or.inl ⟨by kernel_rfl, ?y5_34⟩) (by assumption) ?r5_34
    case y5_34 => (intro w hSw; (try dsimp only at hSw); go_simp; (try with_reducible rfl))
    try simp only [Act.put, List.getElem_toArray, List.getElem_cons_zero, List.getElem_cons_succ, List.setIfInBounds_toArray, List.set_cons_zero, List.set_cons_succ]
    refine wpAnyH_take (i := 6) (v := ?v6_35) rfl (by kernel_rfl) (by kernel_rfl) (by kernel_rfl) (fun _ _ _ h => h) (Or.inl ⟨by kernel_rfl, ?y6_35⟩) (by assumption) ?r6_35
    case y6_35 => (intro w hSw; (try dsimp only at hSw); go_simp; (try with_reducible rfl))
    try simp only [Act.put, List.getElem_toArray, List.getElem_cons_zero, List.getElem_cons_succ, List.setIfInBounds_toArray, List.set_cons_zero, List.set_cons_succ]
    refine wpAnyH_take (i := 7) (v := ?v7_36) rfl (by kernel_rfl) (by kernel_rfl) (by kernel_rfl) (fun _ _ _ h => h) (Or.inl ⟨by kernel_rfl, ?y7_36⟩) (by assumption) ?r7_36
    case y7_36 => (intro w hSw; (try dsimp only at hSw); go_simp; (try with_reducible rfl))
    try simp only [Act.put, List.getElem_toArray, List.getElem_cons_zero, List.getElem_cons_succ, List.setIfInBounds_toArray, List.set_cons_zero, List.set_cons_succ]
    refine wpAnyH_take (i := 8) (v := ?v8_37) rfl (by kernel_rfl) (by kernel_rfl) (by kernel_rfl) (fun _ _ _ h => h) (Or.inl ⟨by kernel_rfl, ?y8_37⟩) (by assumption) ?r8_37
    case y8_37 => (intro w hSw; (try dsimp only at hSw); go_simp; (try with_reducible rfl))
    try simp only [Act.put, List.getElem_toArray, List.getElem_cons_zero, List.getElem_cons_succ, List.setIfInBounds_toArray, List.set_cons_zero, List.set_cons_succ]
    refine wpAnyH_take (i := 9) (v := ?v9_38) rfl (by kernel_rfl) (by kernel_rfl) (by kernel_rfl) (fun _ _ _ h => h) (Or.inl ⟨by kernel_rfl, ?y9_38⟩) (by assumption) ?r9_38
    case y9_38 => (intro w hSw; (try dsimp only at hSw); go_simp; (try with_reducible rfl))
    try simp only [Act.put, List.getElem_toArray, List.getElem_cons_zero, List.getElem_cons_succ, List.setIfInBounds_toArray, List.set_cons_zero, List.set_cons_succ]
    refine wpAnyH_ready (rs := [10]) (by kernel_rfl) (by simp) ?_
    refine AllReadyH.cons rfl (fun K hK => ?_) AllReadyH.nil
    go_simp
    refine K1.out.mono ?_
    rintro r w2 ⟨g1, ⟨b, rfl⟩, g2⟩
    have KG := Lib.hid g2
    clear g2
    refine hK.out _ _ g1 (fun hHeld => ?_)
    clear hK K
    refine wpAnyH_take (i := 11) (v := ?v11_39) rfl (by kernel_rfl) (by kernel_rfl) (by kernel_rfl) (fun _ _ _ h => h) (Or.inl ⟨by kernel_rfl, ?y11_39⟩) (by assumption) ?r11_39
    case y11_39 => (intro w hSw; (try dsimp only at hSw); go_simp; (try with_reducible rfl))
    try simp only [Act.put, List.getElem_toArray, List.getElem_cons_zero, List.getElem_cons_succ, List.setIfInBounds_toArray, List.set_cons_zero, List.set_cons_succ]
    refine wpAnyH_take (i := 12) (v := ?v12_40) rfl (by kernel_rfl) (by kernel_rfl) (by kernel_rfl) (fun _ _ _ h => h) (Or.inl ⟨by kernel_rfl, ?y12_40⟩) (by assumption) ?r12_40
    case y12_40 => (intro w hSw; (try dsimp only at hSw); go_simp; (try with_reducible rfl))
    try simp only [Act.put, List.getElem_toArray, List.getElem_cons_zero, List.getElem_cons_succ, List.setIfInBounds_toArray, List.set_cons_zero, List.set_cons_succ]
    refine wpAnyH_done (by kernel_rfl) ?_ _
    go_wp2
    go_ret
    exact KG.out
  · have HR : Hid (EfQ B W St x S V R P 3 a s w (.returned (.bool false)) w1.drew) := by
      show EffQ B W St x S V R (stepV P (3, a) s) w _ _
      have e : stepV P (3, a) s = none := by
        unfold stepV
        simp only [show ¬ ((3 : Int) = 1) by decide, show ¬ ((3 : Int) = 2) by decide, if_false, if_true]
        rw [if_neg (by omega)]
      rw [e]
      exact eff_none H0.out.drew.mt
    have K0 := Lib.hid (withinN a 2 w1.drew ha)
    go_enter Tryd.func26, Tryd.ntmps26
    go_upto_region 1 with fail
    rw [HW.out]
    go_upto_region 7 with fail
    refine wp_region_held_drew (S := fun w' => EfS W w.heap.size 3 a x w') (by kernel_rfl) HS.out (fun hHeld => ?_)
    refine wpAnyH_take (i := 0) (v := ?v0_3) rfl (by kernel_rfl) (by kernel_rfl) (by kernel_rfl) (fun _ _ _ h => h) (Or.inl ⟨by kernel_rfl, ?y0_3⟩) (by assumption) ?r0_3
    case y0_3 => (intro w hSw; (try dsimp only at hSw); go_simp; (try with_reducible rfl))
    try simp only [Act.put, List.getElem_toArray, List.getElem_cons_zero, List.getElem_cons_succ, List.setIfInBounds_toArray, List.set_cons_zero, List.set_cons_succ]
    refine wpAnyH_take (i := 1) (v := ?v1_4) rfl (by kernel_rfl) (by kernel_rfl) (by kernel_rfl) (fun _ _ _ h => h) (Or.inl ⟨by kernel_rfl, ?y1_4⟩) (by assumption) ?r1_4
    case y1_4 => (intro w hSw; obtain ⟨q0, q1, q2, q3, q7⟩ := hSw.all; (try dsimp only at hSw); go_simp; (try with_reducible rfl))
    try simp only [Act.put, List.getElem_toArray, List.getElem_cons_zero, List.getElem_cons_succ, List.setIfInBounds_toArray, List.set_cons_zero, List.set_cons_succ]
    refine wpAnyH_ready (rs := [2]) (by kernel_rfl) (by simp) ?_
    refine AllReadyH.cons rfl (fun K hK => ?_) AllReadyH.nil
    go_simp
    refine K0.out.mono ?_
    rintro r w2 ⟨rfl, rfl⟩
    refine hK.out _ _ HS.out (fun hHeld => ?_)
    clear hK K
    refine wpAnyH_take (i := 3) (v := ?v3_5) rfl (by kernel_rfl) (by kernel_rfl) (by kernel_rfl) (fun _ _ _ h => h) (Or.inl ⟨by kernel_rfl, ?y3_5⟩) (by assumption) ?r3_5
    case y3_5 => (intro w hSw; (try dsimp only at hSw); go_simp; (try with_reducible rfl))
    try simp only [Act.put, List.getElem_toArray, List.getElem_cons_zero, List.getElem_cons_succ, List.setIfInBounds_toArray, List.set_cons_zero, List.set_cons_succ]
    refine wpAnyH_take (i := 4) (v := undef) rfl (by kernel_rfl) (by kernel_rfl) (by kernel_rfl) (fun _ _ _ h => h) (Or.inr ⟨by kernel_rfl, rfl⟩) (by assumption) ?_
    try simp only [Act.put, List.getElem_toArray, List.getElem_cons_zero, List.getElem_cons_succ, List.setIfInBounds_toArray, List.set_cons_zero, List.set_cons_succ]
    refine wpAnyH_take (i := 5) (v := undef) rfl (by kernel_rfl) (by kernel_rfl) (by kernel_rfl) (fun _ _ _ h => h) (Or.inr ⟨by kernel_rfl, rfl⟩) (by assumption) ?_
    try simp only [Act.put, List.getElem_toArray, List.getElem_cons_zero, List.getElem_cons_succ, List.setIfInBounds_toArray, List.set_cons_zero, List.set_cons_succ]
    refine wpAnyH_take (i := 6) (v := undef) rfl (by kernel_rfl) (by kernel_rfl) (by kernel_rfl) (fun _ _ _ h => h) (Or.inr ⟨by kernel_rfl, rfl⟩) (by assumption) ?_
    try simp only [Act.put, List.getElem_toArray, List.getElem_cons_zero, List.getElem_cons_succ, List.setIfInBounds_toArray, List.set_cons_zero, List.set_cons_succ]
    refine wpAnyH_take (i := 7) (v := undef) rfl (by kernel_rfl) (by kernel_rfl) (by kernel_rfl) (fun _ _ _ h => h) (Or.inr ⟨by kernel_rfl, rfl⟩) (by assumption) ?_
    try simp only [Act.put, List.getElem_toArray, List.getElem_cons_zero, List.getElem_cons_succ, List.setIfInBounds_toArray, List.set_cons_zero, List.set_cons_succ]
    refine wpAnyH_take (i := 8) (v := undef) rfl (by kernel_rfl) (by kernel_rfl) (by kernel_rfl) (fun _ _ _ h => h) (Or.inr ⟨by kernel_rfl, rfl⟩) (by assumption) ?_
    try simp only [Act.put, List.getElem_toArray, List.getElem_cons_zero, List.getElem_cons_succ, List.setIfInBounds_toArray, List.set_cons_zero, List.set_cons_succ]
    refine wpAnyH_take (i := 9) (v := undef) rfl (by kernel_rfl) (by kernel_rfl) (by kernel_rfl) (fun _ _ _ h => h) (Or.inr ⟨by kernel_rfl, rfl⟩) (by assumption) ?_
    try simp only [Act.put, List.getElem_toArray, List.getElem_cons_zero, List.getElem_cons_succ, List.setIfInBounds_toArray, List.set_cons_zero, List.set_cons_succ]
    refine wpAnyH_take (i := 10) (v := undef) rfl (by kernel_rfl) (by kernel_rfl) (by kernel_rfl) (fun _ _ _ h => h) (Or.inr ⟨by kernel_rfl, rfl⟩) (by assumption) ?_
    try simp only [Act.put, List.getElem_toArray, List.getElem_cons_zero, List.getElem_cons_succ, List.setIfInBounds_toArray, List.set_cons_zero, List.set_cons_succ]
    refine wpAnyH_take (i := 11) (v := ?v11_41) rfl (by kernel_rfl) (by kernel_rfl) (by kernel_rfl) (fun _ _ _ h => h) (Or.inl ⟨by kernel_rfl, ?y11_41⟩) (by assumption) ?r11_41
    case y11_41 => (intro w hSw; (try dsimp only at hSw); go_simp; (try with_reducible rfl))
    try simp only [Act.put, List.getElem_toArray, List.getElem_cons_zero, List.getElem_cons_succ, List.setIfInBounds_toArray, List.set_cons_zero, List.set_cons_succ]
    refine wpAnyH_take (i := 12) (v := ?v12_42) rfl (by kernel_rfl) (by kernel_rfl) (by kernel_rfl) (fun _ _ _ h => h) (Or.inl ⟨by kernel_rfl, ?y12_42⟩) (by assumption) ?r12_42
    case y12_42 => (intro w hSw; (try dsimp only at hSw); go_simp; (try with_reducible rfl))
    try simp only [Act.put, List.getElem_toArray, List.getElem_cons_zero, List.getElem_cons_succ, List.setIfInBounds_toArray, List.set_cons_zero, List.set_cons_succ]
    refine wpAnyH_done (by kernel_rfl) ?_ _
    go_wp2
    go_ret
    exact HR.out
set_option maxHeartbeats 1600000 in
theorem eff4 {B W St : Nat} {x : Wx} {S : List (List Int)} {L V R : Value} {s : Sv} {P : Pv} {cs : List Cd} {w : World} (a : Int) (h : EfP B W St x S L V R s P cs w) :
    Calls Tryd.prog 26 #[.pointer (some ⟨W, 0, none⟩), .pointer (some ⟨St, 0, none⟩), .agg #[.int .i64 4, .int .i64 a]] w (EfQ B W St x S V R P 4 a s w) := by
  have h0 := ef0 h 4 a
  obtain ⟨w1, hw1⟩ : ∃ w1, w.alloc (.cells #[.int .i64 4, .int .i64 a] 35) = w1 := ⟨_, rfl⟩
  rw [hw1] at h0
  have HW := Lib.hid hw1
  obtain ⟨b0, b1, _⟩ := h0.e.all
  obtain ⟨AT, cT, eT⟩ := h0.p.hT
  have HT := Lib.hid eT
  have HS : Hid (EfS W w.heap.size 4 a x w1.drew) := Lib.hid h0.drew.e
  have K1 := Lib.hid (h0.drew.push 3 (.inr (by unfold okTy; decide)))
  have H0 := Lib.hid h0
  clear h h0 hw1 eT
  by_cases ha : 0 ≤ a ∧ a < (P.nt : Int)
  · have HE : Hid (stepV P (4, a) s = some (pushV s 3)) := by
      show _ = _
      unfold stepV
      simp only [show ¬ ((4 : Int) = 1) by decide, show ¬ ((4 : Int) = 2) by decide, show ¬ ((4 : Int) = 3) by decide, if_false, if_true]
      rw [if_pos (by omega)]
    have K0 := Lib.hid (withinY a P.nt w1.drew ha)
    unfold EfQ
    rw [HE.out]
    go_enter Tryd.func26, Tryd.ntmps26
    go_upto_region 1 with fail
    rw [HW.out]
    go_upto_region 9 with fail
    refine wp_region_held_drew (S := fun w' => EfS W w.heap.size 4 a x w') (by kernel_rfl) HS.out (fun hHeld => ?_)
    refine wpAnyH_take (i := 0) (v := ?v0_6) rfl (by kernel_rfl) (by kernel_rfl) (by kernel_rfl) (fun _ _ _ h => h) (Or.inl ⟨by kernel_rfl, ?y0_6⟩) (by assumption) ?r0_6
    case y0_6 => (intro w hSw; (try dsimp only at hSw); go_simp; (try with_reducible rfl))
    try simp only [Act.put, List.getElem_toArray, List.getElem_cons_zero, List.getElem_cons_succ, List.setIfInBounds_toArray, List.set_cons_zero, List.set_cons_succ]
    refine wpAnyH_take (i := 1) (v := ?v1_7) rfl (by kernel_rfl) (by kernel_rfl) (by kernel_rfl) (fun _ _ _ h => h) (Or.inl ⟨by kernel_rfl, ?y1_7⟩) (by assumption) ?r1_7
    case y1_7 => (intro w hSw; obtain ⟨q0, q1, q2, q3, q7⟩ := hSw.all; (try dsimp only at hSw); go_simp; (try with_reducible rfl))
    try simp only [Act.put, List.getElem_toArray, List.getElem_cons_zero, List.getElem_cons_succ, List.setIfInBounds_toArray, List.set_cons_zero, List.set_cons_succ]
    refine wpAnyH_take (i := 2) (v := ?v2_43) rfl (by kernel_rfl) (by kernel_rfl) (by kernel_rfl) (fun _ _ _ h => h) (Or.inl ⟨by kernel_rfl, ?y2_43⟩) (by assumption) ?r2_43
    case y2_43 => (intro w hSw; (try dsimp only at hSw); go_simp; (try with_reducible rfl))
    try simp only [Act.put, List.getElem_toArray, List.getElem_cons_zero, List.getElem_cons_succ, List.setIfInBounds_toArray, List.set_cons_zero, List.set_cons_succ]
    refine wpAnyH_take (i := 3) (v := ?v3_44) rfl (by kernel_rfl) (by kernel_rfl) (by kernel_rfl) (fun _ _ _ h => h) (Or.inl ⟨by kernel_rfl, ?y3_44⟩) (by assumption) ?r3_44
    case y3_44 => (intro w hSw; (try dsimp only at hSw); go_simp; (try with_reducible rfl))
    try simp only [Act.put, List.getElem_toArray, List.getElem_cons_zero, List.getElem_cons_succ, List.setIfInBounds_toArray, List.set_cons_zero, List.set_cons_succ]
    refine wpAnyH_take (i := 4) (v := ?v4_45) rfl (by kernel_rfl) (by kernel_rfl) (by kernel_rfl) (fun _ _ _ h => h) (Or.inl ⟨by kernel_rfl, ?y4_45⟩) (by assumption) ?r4_45
    case y4_45 => (intro w hSw; (try dsimp only at hSw); go_simp; (try with_reducible rfl))
    try simp only [Act.put, List.getElem_toArray, List.getElem_cons_zero, List.getElem_cons_succ, List.setIfInBounds_toArray, List.set_cons_zero, List.set_cons_succ]
    refine wpAnyH_take (i := 5) (v := ?v5_46) rfl (by kernel_rfl) (by kernel_rfl) (by kernel_rfl) (fun _ _ _ h => h) (Or.inl ⟨by kernel_rfl, ?y5_46⟩) (by assumption) ?r5_46
    case y5_46 => (intro w hSw; (try dsimp only at hSw); go_simp; (try with_reducible rfl))
    try simp only [Act.put, List.getElem_toArray, List.getElem_cons_zero, List.getElem_cons_succ, List.setIfInBounds_toArray, List.set_cons_zero, List.set_cons_succ]
    refine wpAnyH_take (i := 6) (v := ?v6_8) rfl (by kernel_rfl) (by kernel_rfl) (by kernel_rfl) (fun _ _ _ h => h) (Or.inl ⟨by kernel_rfl, ?y6_8⟩) (by assumption) ?r6_8
    case y6_8 => (intro w hSw; obtain ⟨q0, q1, q2, q3, q7⟩ := hSw.all; rw [HT.out] at q3; (try dsimp only at hSw); go_simp; (try with_reducible rfl))
    try simp only [Act.put, List.getElem_toArray, List.getElem_cons_zero, List.getElem_cons_succ, List.setIfInBounds_toArray, List.set_cons_zero, List.set_cons_succ]
    refine wpAnyH_take (i := 7) (v := ?v7_9) rfl (by kernel_rfl) (by kernel_rfl) (by kernel_rfl) (fun _ _ _ h => h) (Or.inl ⟨by kernel_rfl, ?y7_9⟩) (by assumption) ?r7_9
    case y7_9 => (intro w hSw; (try dsimp only at hSw); go_simp; (try with_reducible rfl))
    try simp only [Act.put, List.getElem_toArray, List.getElem_cons_zero, List.getElem_cons_succ, List.setIfInBounds_toArray, List.set_cons_zero, List.set_cons_succ]
    refine wpAnyH_ready (rs := [8]) (by kernel_rfl) (by simp) ?_
    refine AllReadyH.cons rfl (fun K hK => ?_) AllReadyH.nil
    go_simp
    refine K0.out.mono ?_
    rintro r w2 ⟨rfl, rfl⟩
    refine hK.out _ _ HS.out (fun hHeld => ?_)
    clear hK K
    refine wpAnyH_take (i := 9) (v := ?v9_47) rfl (by kernel_rfl) (by kernel_rfl) (by kernel_rfl) (fun _ _ _ h => h) (Or.inl ⟨by kernel_rfl, ?y9_47⟩) (by assumption) ?r9_47
    case y9_47 => (intro w hSw; (try dsimp only at hSw); go_simp; (try with_reducible rfl))
    try simp only [Act.put, List.getElem_toArray, List.getElem_cons_zero, List.getElem_cons_succ, List.setIfInBounds_toArray, List.set_cons_zero, List.set_cons_succ]
    refine wpAnyH_take (i := 10) (v := ?v10_48) rfl (by kernel_rfl) (by kernel_rfl) (by kernel_rfl) (fun _ _ _ h => h) (Or.inl ⟨by kernel_rfl, ?y10_48⟩) (by assumption) ?r10_48
    case y10_48 => (intro w hSw; (try dsimp only at hSw); go_simp; (try with_reducible rfl))
    try simp only [Act.put, List.getElem_toArray, List.getElem_cons_zero, List.getElem_cons_succ, List.setIfInBounds_toArray, List.set_cons_zero, List.set_cons_succ]
    refine wpAnyH_take (i := 11) (v := ?v11_49) rfl (by kernel_rfl) (by kernel_rfl) (by kernel_rfl) (fun _ _ _ h => h) (Or.inl ⟨by kernel_rfl, ?y11_49⟩) (by assumption) ?r11_49
    case y11_49 => (intro w hSw; (try dsimp only at hSw); go_simp; (try with_reducible rfl))
    try simp only [Act.put, List.getElem_toArray, List.getElem_cons_zero, List.getElem_cons_succ, List.setIfInBounds_toArray, List.set_cons_zero, List.set_cons_succ]
    refine wpAnyH_take (i := 12) (v := ?v12_50) rfl (by kernel_rfl) (by kernel_rfl) (by kernel_rfl) (fun _ _ _ h => h) (Or.inl ⟨by kernel_rfl, ?y12_50⟩) (by assumption) ?r12_50
    case y12_50 => (intro w hSw; (try dsimp only at hSw); go_simp; (try with_reducible rfl))
    try simp only [Act.put, List.getElem_toArray, List.getElem_cons_zero, List.getElem_cons_succ, List.setIfInBounds_toArray, List.set_cons_zero, List.set_cons_succ]
    refine wpAnyH_take (i := 13) (v := ?v13_51) rfl (by kernel_rfl) (by kernel_rfl) (by kernel_rfl) (fun _ _ _ h => h) (Or.inl ⟨by kernel_rfl, ?y13_51⟩) (by assumption) ?r13_51
    case y13_51 => (intro w hSw; (try dsimp only at hSw); go_simp; (try with_reducible rfl))
    try simp only [Act.put, List.getElem_toArray, List.getElem_cons_zero, List.getElem_cons_succ, List.setIfInBounds_toArray, List.set_cons_zero, List.set_cons_succ]
    refine wpAnyH_take (i := 14) (v := ?v14_52) rfl (by kernel_rfl) (by kernel_rfl) (by kernel_rfl) (fun _ _ _ h => h) (Or.inl ⟨by kernel_rfl, ?y14_52⟩) (by assumption) ?r14_52
    case y14_52 => (intro w hSw; (try dsimp only at hSw); go_simp; (try with_reducible rfl))
    try simp only [Act.put, List.getElem_toArray, List.getElem_cons_zero, List.getElem_cons_succ, List.setIfInBounds_toArray, List.set_cons_zero, List.set_cons_succ]
    refine wpAnyH_take (i := 15) (v := ?v15_53) rfl (by kernel_rfl) (by kernel_rfl) (by kernel_rfl) (fun _ _ _ h => h) (Or.inl ⟨by kernel_rfl, ?y15_53⟩) (by assumption) ?r15_53
    case y15_53 => (intro w hSw; (try dsimp only at hSw); go_simp; (try with_reducible rfl))
    try simp only [Act.put, List.getElem_toArray, List.getElem_cons_zero, List.getElem_cons_succ, List.setIfInBounds_toArray, List.set_cons_zero, List.set_cons_succ]
    refine wpAnyH_ready (rs := [16]) (by kernel_rfl) (by simp) ?_
    refine AllReadyH.cons rfl (fun K hK => ?_) AllReadyH.nil
    go_simp
    refine K1.out.mono ?_
    rintro r w2 ⟨g1, ⟨b, rfl⟩, g2⟩
    have KG := Lib.hid g2
    clear g2
    refine hK.out _ _ g1 (fun hHeld => ?_)
    clear hK K
    refine wpAnyH_take (i := 17) (v := ?v17_54) rfl (by kernel_rfl) (by kernel_rfl) (by kernel_rfl) (fun _ _ _ h => h) (Or.inl ⟨by kernel_rfl, ?y17_54⟩) (by assumption) ?r17_54
    case y17_54 => (intro w hSw; (try dsimp only at hSw); go_simp; (try with_reducible rfl))
    try simp only [Act.put, List.getElem_toArray, List.getElem_cons_zero, List.getElem_cons_succ, List.setIfInBounds_toArray, List.set_cons_zero, List.set_cons_succ]
    refine wpAnyH_take (i := 18) (v := ?v18_55) rfl (by kernel_rfl) (by kernel_rfl) (by kernel_rfl) (fun _ _ _ h => h) (Or.inl ⟨by kernel_rfl, ?y18_55⟩) (by assumption) ?r18_55
    case y18_55 => (intro w hSw; (try dsimp only at hSw); go_simp; (try with_reducible rfl))
    try simp only [Act.put, List.getElem_toArray, List.getElem_cons_zero, List.getElem_cons_succ, List.setIfInBounds_toArray, List.set_cons_zero, List.set_cons_succ]
    refine wpAnyH_done (by kernel_rfl) ?_ _
    go_wp2
    go_ret
    exact KG.out
  · have HR : Hid (EfQ B W St x S V R P 4 a s w (.returned (.bool false)) w1.drew) := by
      show EffQ B W St x S V R (stepV P (4, a) s) w _ _
      have e : stepV P (4, a) s = none := by
        unfold stepV
        simp only [show ¬ ((4 : Int) = 1) by decide, show ¬ ((4 : Int) = 2) by decide, show ¬ ((4 : Int) = 3) by decide, if_false, if_true]
        rw [if_neg (by omega)]
      rw [e]
      exact eff_none H0.out.drew.mt
    have K0 := Lib.hid (withinN a P.nt w1.drew ha)
    go_enter Tryd.func26, Tryd.ntmps26
    go_upto_region 1 with fail
    rw [HW.out]
    go_upto_region 9 with fail
    refine wp_region_held_drew (S := fun w' => EfS W w.heap.size 4 a x w') (by kernel_rfl) HS.out (fun hHeld => ?_)
    refine wpAnyH_take (i := 0) (v := ?v0_10) rfl (by kernel_rfl) (by kernel_rfl) (by kernel_rfl) (fun _ _ _ h => h) (Or.inl ⟨by kernel_rfl, ?y0_10⟩) (by assumption) ?r0_10
    case y0_10 => (intro w hSw; (try dsimp only at hSw); go_simp; (try with_reducible rfl))
    try simp only [Act.put, List.getElem_toArray, List.getElem_cons_zero, List.getElem_cons_succ, List.setIfInBounds_toArray, List.set_cons_zero, List.set_cons_succ]
    refine wpAnyH_take (i := 1) (v := ?v1_11) rfl (by kernel_rfl) (by kernel_rfl) (by kernel_rfl) (fun _ _ _ h => h) (Or.inl ⟨by kernel_rfl, ?y1_11⟩) (by assumption) ?r1_11
    case y1_11 => (intro w hSw; obtain ⟨q0, q1, q2, q3, q7⟩ := hSw.all; (try dsimp only at hSw); go_simp; (try with_reducible rfl))
    try simp only [Act.put, List.getElem_toArray, List.getElem_cons_zero, List.getElem_cons_succ, List.setIfInBounds_toArray, List.set_cons_zero, List.set_cons_succ]
    refine wpAnyH_take (i := 2) (v := ?v2_56) rfl (by kernel_rfl) (by kernel_rfl) (by kernel_rfl) (fun _ _ _ h => h) (Or.inl ⟨by kernel_rfl, ?y2_56⟩) (by assumption) ?r2_56
    case y2_56 => (intro w hSw; (try dsimp only at hSw); go_simp; (try with_reducible rfl))
    try simp only [Act.put, List.getElem_toArray, List.getElem_cons_zero, List.getElem_cons_succ, List.setIfInBounds_toArray, List.set_cons_zero, List.set_cons_succ]
    refine wpAnyH_take (i := 3) (v := ?v3_57) rfl (by kernel_rfl) (by kernel_rfl) (by kernel_rfl) (fun _ _ _ h => h) (Or.inl ⟨by kernel_rfl, ?y3_57⟩) (by assumption) ?r3_57
    case y3_57 => (intro w hSw; (try dsimp only at hSw); go_simp; (try with_reducible rfl))
    try simp only [Act.put, List.getElem_toArray, List.getElem_cons_zero, List.getElem_cons_succ, List.setIfInBounds_toArray, List.set_cons_zero, List.set_cons_succ]
    refine wpAnyH_take (i := 4) (v := ?v4_58) rfl (by kernel_rfl) (by kernel_rfl) (by kernel_rfl) (fun _ _ _ h => h) (Or.inl ⟨by kernel_rfl, ?y4_58⟩) (by assumption) ?r4_58
    case y4_58 => (intro w hSw; (try dsimp only at hSw); go_simp; (try with_reducible rfl))
    try simp only [Act.put, List.getElem_toArray, List.getElem_cons_zero, List.getElem_cons_succ, List.setIfInBounds_toArray, List.set_cons_zero, List.set_cons_succ]
    refine wpAnyH_take (i := 5) (v := ?v5_59) rfl (by kernel_rfl) (by kernel_rfl) (by kernel_rfl) (fun _ _ _ h => h) (Or.inl ⟨by kernel_rfl, ?y5_59⟩) (by assumption) ?r5_59
    case y5_59 => (intro w hSw; (try dsimp only at hSw); go_simp; (try with_reducible rfl))
    try simp only [Act.put, List.getElem_toArray, List.getElem_cons_zero, List.getElem_cons_succ, List.setIfInBounds_toArray, List.set_cons_zero, List.set_cons_succ]
    refine wpAnyH_take (i := 6) (v := ?v6_12) rfl (by kernel_rfl) (by kernel_rfl) (by kernel_rfl) (fun _ _ _ h => h) (Or.inl ⟨by kernel_rfl, ?y6_12⟩) (by assumption) ?r6_12
    case y6_12 => (intro w hSw; obtain ⟨q0, q1, q2, q3, q7⟩ := hSw.all; rw [HT.out] at q3; (try dsimp only at hSw); go_simp; (try with_reducible rfl))
    try simp only [Act.put, List.getElem_toArray, List.getElem_cons_zero, List.getElem_cons_succ, List.setIfInBounds_toArray, List.set_cons_zero, List.set_cons_succ]
    refine wpAnyH_take (i := 7) (v := ?v7_13) rfl (by kernel_rfl) (by kernel_rfl) (by kernel_rfl) (fun _ _ _ h => h) (Or.inl ⟨by kernel_rfl, ?y7_13⟩) (by assumption) ?r7_13
    case y7_13 => (intro w hSw; (try dsimp only at hSw); go_simp; (try with_reducible rfl))
    try simp only [Act.put, List.getElem_toArray, List.getElem_cons_zero, List.getElem_cons_succ, List.setIfInBounds_toArray, List.set_cons_zero, List.set_cons_succ]
    refine wpAnyH_ready (rs := [8]) (by kernel_rfl) (by simp) ?_
    refine AllReadyH.cons rfl (fun K hK => ?_) AllReadyH.nil
    go_simp
    refine K0.out.mono ?_
    rintro r w2 ⟨rfl, rfl⟩
    refine hK.out _ _ HS.out (fun hHeld => ?_)
    clear hK K
    refine wpAnyH_take (i := 9) (v := ?v9_14) rfl (by kernel_rfl) (by kernel_rfl) (by kernel_rfl) (fun _ _ _ h => h) (Or.inl ⟨by kernel_rfl, ?y9_14⟩) (by assumption) ?r9_14
    case y9_14 => (intro w hSw; (try dsimp only at hSw); go_simp; (try with_reducible rfl))
    try simp only [Act.put, List.getElem_toArray, List.getElem_cons_zero, List.getElem_cons_succ, List.setIfInBounds_toArray, List.set_cons_zero, List.set_cons_succ]
    refine wpAnyH_take (i := 10) (v := undef) rfl (by kernel_rfl) (by kernel_rfl) (by kernel_rfl) (fun _ _ _ h => h) (Or.inr ⟨by kernel_rfl, rfl⟩) (by assumption) ?_
    try simp only [Act.put, List.getElem_toArray, List.getElem_cons_zero, List.getElem_cons_succ, List.setIfInBounds_toArray, List.set_cons_zero, List.set_cons_succ]
    refine wpAnyH_take (i := 11) (v := undef) rfl (by kernel_rfl) (by kernel_rfl) (by kernel_rfl) (fun _ _ _ h => h) (Or.inr ⟨by kernel_rfl, rfl⟩) (by assumption) ?_
    try simp only [Act.put, List.getElem_toArray, List.getElem_cons_zero, List.getElem_cons_succ, List.setIfInBounds_toArray, List.set_cons_zero, List.set_cons_succ]
    refine wpAnyH_take (i := 12) (v := undef) rfl (by kernel_rfl) (by kernel_rfl) (by kernel_rfl) (fun _ _ _ h => h) (Or.inr ⟨by kernel_rfl, rfl⟩) (by assumption) ?_
    try simp only [Act.put, List.getElem_toArray, List.getElem_cons_zero, List.getElem_cons_succ, List.setIfInBounds_toArray, List.set_cons_zero, List.set_cons_succ]
    refine wpAnyH_take (i := 13) (v := undef) rfl (by kernel_rfl) (by kernel_rfl) (by kernel_rfl) (fun _ _ _ h => h) (Or.inr ⟨by kernel_rfl, rfl⟩) (by assumption) ?_
    try simp only [Act.put, List.getElem_toArray, List.getElem_cons_zero, List.getElem_cons_succ, List.setIfInBounds_toArray, List.set_cons_zero, List.set_cons_succ]
    refine wpAnyH_take (i := 14) (v := undef) rfl (by kernel_rfl) (by kernel_rfl) (by kernel_rfl) (fun _ _ _ h => h) (Or.inr ⟨by kernel_rfl, rfl⟩) (by assumption) ?_
    try simp only [Act.put, List.getElem_toArray, List.getElem_cons_zero, List.getElem_cons_succ, List.setIfInBounds_toArray, List.set_cons_zero, List.set_cons_succ]
    refine wpAnyH_take (i := 15) (v := undef) rfl (by kernel_rfl) (by kernel_rfl) (by kernel_rfl) (fun _ _ _ h => h) (Or.inr ⟨by kernel_rfl, rfl⟩) (by assumption) ?_
    try simp only [Act.put, List.getElem_toArray, List.getElem_cons_zero, List.getElem_cons_succ, List.setIfInBounds_toArray, List.set_cons_zero, List.set_cons_succ]
    refine wpAnyH_take (i := 16) (v := undef) rfl (by kernel_rfl) (by kernel_rfl) (by kernel_rfl) (fun _ _ _ h => h) (Or.inr ⟨by kernel_rfl, rfl⟩) (by assumption) ?_
    try simp only [Act.put, List.getElem_toArray, List.getElem_cons_zero, List.getElem_cons_succ, List.setIfInBounds_toArray, List.set_cons_zero, List.set_cons_succ]
    refine wpAnyH_take (i := 17) (v := ?v17_60) rfl (by kernel_rfl) (by kernel_rfl) (by kernel_rfl) (fun _ _ _ h => h) (Or.inl ⟨by kernel_rfl, ?y17_60⟩) (by assumption) ?r17_60
    case y17_60 => (intro w hSw; (try dsimp only at hSw); go_simp; (try with_reducible rfl))
    try simp only [Act.put, List.getElem_toArray, List.getElem_cons_zero, List.getElem_cons_succ, List.setIfInBounds_toArray, List.set_cons_zero, List.set_cons_succ]
    refine wpAnyH_take (i := 18) (v := ?v18_61) rfl (by kernel_rfl) (by kernel_rfl) (by kernel_rfl) (fun _ _ _ h => h) (Or.inl ⟨by kernel_rfl, ?y18_61⟩) (by assumption) ?r18_61
    case y18_61 => (intro w hSw; (try dsimp only at hSw); go_simp; (try with_reducible rfl))
    try simp only [Act.put, List.getElem_toArray, List.getElem_cons_zero, List.getElem_cons_succ, List.setIfInBounds_toArray, List.set_cons_zero, List.set_cons_succ]
    refine wpAnyH_done (by kernel_rfl) ?_ _
    go_wp2
    go_ret
    exact HR.out
set_option maxHeartbeats 1600000 in
theorem eff9 {B W St : Nat} {x : Wx} {S : List (List Int)} {L V R : Value} {s : Sv} {P : Pv} {cs : List Cd} {w : World} (a : Int) (h : EfP B W St x S L V R s P cs w) :
    Calls Tryd.prog 26 #[.pointer (some ⟨W, 0, none⟩), .pointer (some ⟨St, 0, none⟩), .agg #[.int .i64 9, .int .i64 a]] w (EfQ B W St x S V R P 9 a s w) := by
  have h0 := ef0 h 9 a
  obtain ⟨w1, hw1⟩ : ∃ w1, w.alloc (.cells #[.int .i64 9, .int .i64 a] 35) = w1 := ⟨_, rfl⟩
  rw [hw1] at h0
  have HW := Lib.hid hw1
  obtain ⟨b0, b1, _⟩ := h0.e.all
  have K1 := Lib.hid (h0.repl 3 3 (by unfold okTy; decide) (by unfold okTy; decide))
  have HE : Hid (stepV P (9, a) s = (popV s [3]).map (pushV · 3)) := by
    show _ = _
    unfold stepV
    simp only [show ¬ ((9 : Int) = 1) by decide, show ¬ ((9 : Int) = 2) by decide, show ¬ ((9 : Int) = 3) by decide, show ¬ ((9 : Int) = 4) by decide, show ¬ ((9 : Int) = 5) by decide, show ¬ ((9 : Int) = 6) by decide, show ¬ ((9 : Int) = 7) by decide, show ¬ ((9 : Int) = 8) by decide, if_false, if_true]
  clear h h0 hw1
  unfold EfQ
  rw [HE.out]
  go_enter Tryd.func26, Tryd.ntmps26
  go_upto_region 1 with fail
  rw [HW.out]
  go_wp2_with fail
  refine K1.out.mono ?_
  rintro r w2 ⟨⟨b, rfl⟩, g2⟩
  have KG := Lib.hid g2
  clear g2
  go_wp2
  go_ret
  exact KG.out
set_option maxHeartbeats 1600000 in
theorem eff10 {B W St : Nat} {x : Wx} {S : List (List Int)} {L V R : Value} {s : Sv} {P : Pv} {cs : List Cd} {w : World} (a : Int) (h : EfP B W St x S L V R s P cs w) :
    Calls Tryd.prog 26 #[.pointer (some ⟨W, 0, none⟩), .pointer (some ⟨St, 0, none⟩), .agg #[.int .i64 10, .int .i64 a]] w (EfQ B W St x S V R P 10 a s w) := by
  have h0 := ef0 h 10 a
  obtain ⟨w1, hw1⟩ : ∃ w1, w.alloc (.cells #[.int .i64 10, .int .i64 a] 35) = w1 := ⟨_, rfl⟩
  rw [hw1] at h0
  have HW := Lib.hid hw1
  obtain ⟨b0, b1, _⟩ := h0.e.all
  have K1 := Lib.hid (h0.repl 3 2 (by unfold okTy; decide) (by unfold okTy; decide))
  have HE : Hid (stepV P (10, a) s = (popV s [3]).map (pushV · 2)) := by
    show _ = _
    unfold stepV
    simp only [show ¬ ((10 : Int) = 1) by decide, show ¬ ((10 : Int) = 2) by decide, show ¬ ((10 : Int) = 3) by decide, show ¬ ((10 : Int) = 4) by decide, show ¬ ((10 : Int) = 5) by decide, show ¬ ((10 : Int) = 6) by decide, show ¬ ((10 : Int) = 7) by decide, show ¬ ((10 : Int) = 8) by decide, show ¬ ((10 : Int) = 9) by decide, if_false, if_true]
  clear h h0 hw1
  unfold EfQ
  rw [HE.out]
  go_enter Tryd.func26, Tryd.ntmps26
  go_upto_region 1 with fail
  rw [HW.out]
  go_wp2_with fail
  refine K1.out.mono ?_
  rintro r w2 ⟨⟨b, rfl⟩, g2⟩
  have KG := Lib.hid g2
  clear g2
  go_wp2
  go_ret
  exact KG.out
set_option maxHeartbeats 1600000 in
theorem eff11 {B W St : Nat} {x : Wx} {S : List (List Int)} {L V R : Value} {s : Sv} {P : Pv} {cs : List Cd} {w : World} (a : Int) (h : EfP B W St x S L V R s P cs w) :
    Calls Tryd.prog 26 #[.pointer (some ⟨W, 0, none⟩), .pointer (some ⟨St, 0, none⟩), .agg #[.int .i64 11, .int .i64 a]] w (EfQ B W St x S V R P 11 a s w) := by
  have h0 := ef0 h 11 a
  obtain ⟨w1, hw1⟩ : ∃ w1, w.alloc (.cells #[.int .i64 11, .int .i64 a] 35) = w1 := ⟨_, rfl⟩
  rw [hw1] at h0
  have HW := Lib.hid hw1
  obtain ⟨b0, b1, _⟩ := h0.e.all
  have K1 := Lib.hid (h0.repl 3 1 (by unfold okTy; decide) (by unfold okTy; decide))
  have HE : Hid (stepV P (11, a) s = (popV s [3]).map (pushV · 1)) := by
    show _ = _
    unfold stepV
    simp only [show ¬ ((11 : Int) = 1) by decide, show ¬ ((11 : Int) = 2) by decide, show ¬ ((11 : Int) = 3) by decide, show ¬ ((11 : Int) = 4) by decide, show ¬ ((11 : Int) = 5) by decide, show ¬ ((11 : Int) = 6) by decide, show ¬ ((11 : Int) = 7) by decide, show ¬ ((11 : Int) = 8) by decide, show ¬ ((11 : Int) = 9) by decide, show ¬ ((11 : Int) = 10) by decide, if_false, if_true]
  clear h h0 hw1
  unfold EfQ
  rw [HE.out]
  go_enter Tryd.func26, Tryd.ntmps26
  go_upto_region 1 with fail
  rw [HW.out]
  go_wp2_with fail
  refine K1.out.mono ?_
  rintro r w2 ⟨⟨b, rfl⟩, g2⟩
  have KG := Lib.hid g2
  clear g2
  go_wp2
  go_ret
  exact KG.out
set_option maxHeartbeats 1600000 in
theorem eff12 {B W St : Nat} {x : Wx} {S : List (List Int)} {L V R : Value} {s : Sv} {P : Pv} {cs : List Cd} {w : World} (a : Int) (h : EfP B W St x S L V R s P cs w) :
    Calls Tryd.prog 26 #[.pointer (some ⟨W, 0, none⟩), .pointer (some ⟨St, 0, none⟩), .agg #[.int .i64 12, .int .i64 a]] w (EfQ B W St x S V R P 12 a s w) := by
  have h0 := ef0 h 12 a
  obtain ⟨w1, hw1⟩ : ∃ w1, w.alloc (.cells #[.int .i64 12, .int .i64 a] 35) = w1 := ⟨_, rfl⟩
  rw [hw1] at h0
  have HW := Lib.hid hw1
  obtain ⟨b0, b1, _⟩ := h0.e.all
  have K1 := Lib.hid (h0.pops [3, 3] (by decide) (by unfold okTy; decide))
  have HS : Hid (EfS W w.heap.size 12 a x w1.drew) := Lib.hid h0.drew.e
  have HE : Hid (stepV P (12, a) s = popV s [3, 3]) := by
    show _ = _
    unfold stepV
    simp only [show ¬ ((12 : Int) = 1) by decide, show ¬ ((12 : Int) = 2) by decide, show ¬ ((12 : Int) = 3) by decide, show ¬ ((12 : Int) = 4) by decide, show ¬ ((12 : Int) = 5) by decide, show ¬ ((12 : Int) = 6) by decide, show ¬ ((12 : Int) = 7) by decide, show ¬ ((12 : Int) = 8) by decide, show ¬ ((12 : Int) = 9) by decide, show ¬ ((12 : Int) = 10) by decide, show ¬ ((12 : Int) = 11) by decide, if_false, if_true]
  clear h h0 hw1
  unfold EfQ
  rw [HE.out]
  go_enter Tryd.func26, Tryd.ntmps26
  go_upto_region 1 with fail
  rw [HW.out]
  go_upto_region 27 with fail
  refine wp_region_held_drew (S := fun w' => EfS W w.heap.size 12 a x w') (by kernel_rfl) HS.out (fun hHeld => ?_)
  refine wpAnyH_take (i := 0) (v := ?v0_62) rfl (by kernel_rfl) (by kernel_rfl) (by kernel_rfl) (fun _ _ _ h => h) (Or.inl ⟨by kernel_rfl, ?y0_62⟩) (by assumption) ?r0_62
  case y0_62 => (intro w hSw; (try dsimp only at hSw); go_simp; (try with_reducible rfl))
  try simp only [Act.put, List.getElem_toArray, List.getElem_cons_zero, List.getElem_cons_succ, List.setIfInBounds_toArray, List.set_cons_zero, List.set_cons_succ]
  refine wpAnyH_take (i := 1) (v := ?v1_63) rfl (by kernel_rfl) (by kernel_rfl) (by kernel_rfl) (fun _ _ _ h => h) (Or.inl ⟨by kernel_rfl, ?y1_63⟩) (by assumption) ?r1_63
  case y1_63 => (intro w hSw; (try dsimp only at hSw); go_simp; (try with_reducible rfl))
  try simp only [Act.put, List.getElem_toArray, List.getElem_cons_zero, List.getElem_cons_succ, List.setIfInBounds_toArray, List.set_cons_zero, List.set_cons_succ]
  refine wpAnyH_take (i := 2) (v := ?v2_64) rfl (by kernel_rfl) (by kernel_rfl) (by kernel_rfl) (fun _ _ _ h => h) (Or.inl ⟨by kernel_rfl, ?y2_64⟩) (by assumption) ?r2_64
  case y2_64 => (intro w hSw; (try dsimp only at hSw); go_simp; (try with_reducible rfl))
  try simp only [Act.put, List.getElem_toArray, List.getElem_cons_zero, List.getElem_cons_succ, List.setIfInBounds_toArray, List.set_cons_zero, List.set_cons_succ]
  refine wpAnyH_take (i := 3) (v := ?v3_65) rfl (by kernel_rfl) (by kernel_rfl) (by kernel_rfl) (fun _ _ _ h => h) (Or.inl ⟨by kernel_rfl, ?y3_65⟩) (by assumption) ?r3_65
  case y3_65 => (intro w hSw; (try dsimp only at hSw); go_simp; (try with_reducible rfl))
  try simp only [Act.put, List.getElem_toArray, List.getElem_cons_zero, List.getElem_cons_succ, List.setIfInBounds_toArray, List.set_cons_zero, List.set_cons_succ]
  refine wpAnyH_take (i := 4) (v := ?v4_66) rfl (by kernel_rfl) (by kernel_rfl) (by kernel_rfl) (fun _ _ _ h => h) (Or.inl ⟨by kernel_rfl, ?y4_66⟩) (by assumption) ?r4_66
  case y4_66 => (intro w hSw; (try dsimp only at hSw); go_simp; (try with_reducible rfl))
  try simp only [Act.put, List.getElem_toArray, List.getElem_cons_zero, List.getElem_cons_succ, List.setIfInBounds_toArray, List.set_cons_zero, List.set_cons_succ]
  refine wpAnyH_take (i := 5) (v := ?v5_67) rfl (by kernel_rfl) (by kernel_rfl) (by kernel_rfl) (fun _ _ _ h => h) (Or.inl ⟨by kernel_rfl, ?y5_67⟩) (by assumption) ?r5_67
  case y5_67 => (intro w hSw; (try dsimp only at hSw); go_simp; (try with_reducible rfl))
  try simp only [Act.put, List.getElem_toArray, List.getElem_cons_zero, List.getElem_cons_succ, List.setIfInBounds_toArray, List.set_cons_zero, List.set_cons_succ]
  refine wpAnyH_ready (rs := [6]) (by kernel_rfl) (by simp) ?_
  refine AllReadyH.cons rfl (fun K hK => ?_) AllReadyH.nil
  go_simp
  refine hK.out _ _ K1.out.1 (fun hHeld => ?_)
  clear hK K
  refine wpAnyH_ready (rs := [7]) (by kernel_rfl) (by simp) ?_
  refine AllReadyH.cons rfl (fun K hK => ?_) AllReadyH.nil
  go_simp
  refine K1.out.2.mono ?_
  rintro r w2 ⟨g1, ⟨b, rfl⟩, g2⟩
  have KG := Lib.hid g2
  clear g2
  refine hK.out _ _ g1 (fun hHeld => ?_)
  clear hK K
  refine wpAnyH_take (i := 8) (v := ?v8_15) rfl (by kernel_rfl) (by kernel_rfl) (by kernel_rfl) (fun _ _ _ h => h) (Or.inl ⟨by kernel_rfl, ?y8_15⟩) (by assumption) ?r8_15
  case y8_15 => (intro w hSw; (try dsimp only at hSw); go_simp; (try with_reducible rfl))
  try simp only [Act.put, List.getElem_toArray, List.getElem_cons_zero, List.getElem_cons_succ, List.setIfInBounds_toArray, List.set_cons_zero, List.set_cons_succ]
  refine wpAnyH_done (by kernel_rfl) ?_ _
  go_wp2
  go_ret
  exact KG.out
set_option maxHeartbeats 1600000 in
theorem eff13 {B W St : Nat} {x : Wx} {S : List (List Int)} {L V R : Value} {s : Sv} {P : Pv} {cs : List Cd} {w : World} (a : Int) (h : EfP B W St x S L V R s P cs w) :
    Calls Tryd.prog 26 #[.pointer (some ⟨W, 0, none⟩), .pointer (some ⟨St, 0, none⟩), .agg #[.int .i64 13, .int .i64 a]] w (EfQ B W St x S V R P 13 a s w) := by
  have h0 := ef0 h 13 a
  obtain ⟨w1, hw1⟩ : ∃ w1, w.alloc (.cells #[.int .i64 13, .int .i64 a] 35) = w1 := ⟨_, rfl⟩
  rw [hw1] at h0
  have HW := Lib.hid hw1
  obtain ⟨b0, b1, _⟩ := h0.e.all
  have K1 := Lib.hid (h0.pops [3] (by decide) (by unfold okTy; decide))
  have HS : Hid (EfS W w.heap.size 13 a x w1.drew) := Lib.hid h0.drew.e
  have HE : Hid (stepV P (13, a) s = popV s [3]) := by
    show _ = _
    unfold stepV
    simp only [show ¬ ((13 : Int) = 1) by decide, show ¬ ((13 : Int) = 2) by decide, show ¬ ((13 : Int) = 3) by decide, show ¬ ((13 : Int) = 4) by decide, show ¬ ((13 : Int) = 5) by decide, show ¬ ((13 : Int) = 6) by decide, show ¬ ((13 : Int) = 7) by decide, show ¬ ((13 : Int) = 8) by decide, show ¬ ((13 : Int) = 9) by decide, show ¬ ((13 : Int) = 10) by decide, show ¬ ((13 : Int) = 11) by decide, show ¬ ((13 : Int) = 12) by decide, if_false, if_true]
  clear h h0 hw1
  unfold EfQ
  rw [HE.out]
  go_enter Tryd.func26, Tryd.ntmps26
  go_upto_region 1 with fail
  rw [HW.out]
  go_upto_region 29 with fail
  refine wp_region_held_drew (S := fun w' => EfS W w.heap.size 13 a x w') (by kernel_rfl) HS.out (fun hHeld => ?_)
  refine wpAnyH_take (i := 0) (v := ?v0_68) rfl (by kernel_rfl) (by kernel_rfl) (by kernel_rfl) (fun _ _ _ h => h) (Or.inl ⟨by kernel_rfl, ?y0_68⟩) (by assumption) ?r0_68
  case y0_68 => (intro w hSw; (try dsimp only at hSw); go_simp; (try with_reducible rfl))
  try simp only [Act.put, List.getElem_toArray, List.getElem_cons_zero, List.getElem_cons_succ, List.setIfInBounds_toArray, List.set_cons_zero, List.set_cons_succ]
  refine wpAnyH_take (i := 1) (v := ?v1_69) rfl (by kernel_rfl) (by kernel_rfl) (by kernel_rfl) (fun _ _ _ h => h) (Or.inl ⟨by kernel_rfl, ?y1_69⟩) (by assumption) ?r1_69
  case y1_69 => (intro w hSw; (try dsimp only at hSw); go_simp; (try with_reducible rfl))
  try simp only [Act.put, List.getElem_toArray, List.getElem_cons_zero, List.getElem_cons_succ, List.setIfInBounds_toArray, List.set_cons_zero, List.set_cons_succ]
  refine wpAnyH_take (i := 2) (v := ?v2_70) rfl (by kernel_rfl) (by kernel_rfl) (by kernel_rfl) (fun _ _ _ h => h) (Or.inl ⟨by kernel_rfl, ?y2_70⟩) (by assumption) ?r2_70
  case y2_70 => (intro w hSw; (try dsimp only at hSw); go_simp; (try with_reducible rfl))
  try simp only [Act.put, List.getElem_toArray, List.getElem_cons_zero, List.getElem_cons_succ, List.setIfInBounds_toArray, List.set_cons_zero, List.set_cons_succ]
  refine wpAnyH_take (i := 3) (v := ?v3_71) rfl (by kernel_rfl) (by kernel_rfl) (by kernel_rfl) (fun _ _ _ h => h) (Or.inl ⟨by kernel_rfl, ?y3_71⟩) (by assumption) ?r3_71
  case y3_71 => (intro w hSw; (try dsimp only at hSw); go_simp; (try with_reducible rfl))
  try simp only [Act.put, List.getElem_toArray, List.getElem_cons_zero, List.getElem_cons_succ, List.setIfInBounds_toArray, List.set_cons_zero, List.set_cons_succ]
  refine wpAnyH_take (i := 4) (v := ?v4_72) rfl (by kernel_rfl) (by kernel_rfl) (by kernel_rfl) (fun _ _ _ h => h) (Or.inl ⟨by kernel_rfl, ?y4_72⟩) (by assumption) ?r4_72
  case y4_72 => (intro w hSw; (try dsimp only at hSw); go_simp; (try with_reducible rfl))
  try simp only [Act.put, List.getElem_toArray, List.getElem_cons_zero, List.getElem_cons_succ, List.setIfInBounds_toArray, List.set_cons_zero, List.set_cons_succ]
  refine wpAnyH_take (i := 5) (v := ?v5_73) rfl (by kernel_rfl) (by kernel_rfl) (by kernel_rfl) (fun _ _ _ h => h) (Or.inl ⟨by kernel_rfl, ?y5_73⟩) (by assumption) ?r5_73
  case y5_73 => (intro w hSw; (try dsimp only at hSw); go_simp; (try with_reducible rfl))
  try simp only [Act.put, List.getElem_toArray, List.getElem_cons_zero, List.getElem_cons_succ, List.setIfInBounds_toArray, List.set_cons_zero, List.set_cons_succ]
  refine wpAnyH_ready (rs := [6]) (by kernel_rfl) (by simp) ?_
  refine AllReadyH.cons rfl (fun K hK => ?_) AllReadyH.nil
  go_simp
  refine hK.out _ _ K1.out.1 (fun hHeld => ?_)
  clear hK K
  refine wpAnyH_ready (rs := [7]) (by kernel_rfl) (by simp) ?_
  refine AllReadyH.cons rfl (fun K hK => ?_) AllReadyH.nil
  go_simp
  refine K1.out.2.mono ?_
  rintro r w2 ⟨g1, ⟨b, rfl⟩, g2⟩
  have KG := Lib.hid g2
  clear g2
  refine hK.out _ _ g1 (fun hHeld => ?_)
  clear hK K
  refine wpAnyH_take (i := 8) (v := ?v8_16) rfl (by kernel_rfl) (by kernel_rfl) (by kernel_rfl) (fun _ _ _ h => h) (Or.inl ⟨by kernel_rfl, ?y8_16⟩) (by assumption) ?r8_16
  case y8_16 => (intro w hSw; (try dsimp only at hSw); go_simp; (try with_reducible rfl))
  try simp only [Act.put, List.getElem_toArray, List.getElem_cons_zero, List.getElem_cons_succ, List.setIfInBounds_toArray, List.set_cons_zero, List.set_cons_succ]
  refine wpAnyH_done (by kernel_rfl) ?_ _
  go_wp2
  go_ret
  exact KG.out
set_option maxHeartbeats 1600000 in
theorem eff16 {B W St : Nat} {x : Wx} {S : List (List Int)} {L V R : Value} {s : Sv} {P : Pv} {cs : List Cd} {w : World} (a : Int) (h : EfP B W St x S L V R s P cs w) :
    Calls Tryd.prog 26 #[.pointer (some ⟨W, 0, none⟩), .pointer (some ⟨St, 0, none⟩), .agg #[.int .i64 16, .int .i64 a]] w (EfQ B W St x S V R P 16 a s w) := by
  have h0 := ef0 h 16 a
  obtain ⟨w1, hw1⟩ : ∃ w1, w.alloc (.cells #[.int .i64 16, .int .i64 a] 35) = w1 := ⟨_, rfl⟩
  rw [hw1] at h0
  have HW := Lib.hid hw1
  obtain ⟨b0, b1, _⟩ := h0.e.all
  have K1 := Lib.hid (h0.pops [2] (by decide) (by unfold okTy; decide))
  have HS : Hid (EfS W w.heap.size 16 a x w1.drew) := Lib.hid h0.drew.e
  have HE : Hid (stepV P (16, a) s = popV s [2]) := by
    show _ = _
    unfold stepV
    simp only [show ¬ ((16 : Int) = 1) by decide, show ¬ ((16 : Int) = 2) by decide, show ¬ ((16 : Int) = 3) by decide, show ¬ ((16 : Int) = 4) by decide, show ¬ ((16 : Int) = 5) by decide, show ¬ ((16 : Int) = 6) by decide, show ¬ ((16 : Int) = 7) by decide, show ¬ ((16 : Int) = 8) by decide, show ¬ ((16 : Int) = 9) by decide, show ¬ ((16 : Int) = 10) by decide, show ¬ ((16 : Int) = 11) by decide, show ¬ ((16 : Int) = 12) by decide, show ¬ ((16 : Int) = 13) by decide, show ¬ ((16 : Int) = 14) by decide, show ¬ ((16 : Int) = 15) by decide, if_false, if_true]
  clear h h0 hw1
  unfold EfQ
  rw [HE.out]
  go_enter Tryd.func26, Tryd.ntmps26
  go_upto_region 1 with fail
  rw [HW.out]
  go_upto_region 33 with fail
  refine wp_region_held_drew (S := fun w' => EfS W w.heap.size 16 a x w') (by kernel_rfl) HS.out (fun hHeld => ?_)
  refine wpAnyH_take (i := 0) (v := ?v0_74) rfl (by kernel_rfl) (by kernel_rfl) (by kernel_rfl) (fun _ _ _ h => h) (Or.inl ⟨by kernel_rfl, ?y0_74⟩) (by assumption) ?r0_74
  case y0_74 => (intro w hSw; (try dsimp only at hSw); go_simp; (try with_reducible rfl))
  try simp only [Act.put, List.getElem_toArray, List.getElem_cons_zero, List.getElem_cons_succ, List.setIfInBounds_toArray, List.set_cons_zero, List.set_cons_succ]
  refine wpAnyH_take (i := 1) (v := ?v1_75) rfl (by kernel_rfl) (by kernel_rfl) (by kernel_rfl) (fun _ _ _ h => h) (Or.inl ⟨by kernel_rfl, ?y1_75⟩) (by assumption) ?r1_75
  case y1_75 => (intro w hSw; (try dsimp only at hSw); go_simp; (try with_reducible rfl))
  try simp only [Act.put, List.getElem_toArray, List.getElem_cons_zero, List.getElem_cons_succ, List.setIfInBounds_toArray, List.set_cons_zero, List.set_cons_succ]
  refine wpAnyH_take (i := 2) (v := ?v2_76) rfl (by kernel_rfl) (by kernel_rfl) (by kernel_rfl) (fun _ _ _ h => h) (Or.inl ⟨by kernel_rfl, ?y2_76⟩) (by assumption) ?r2_76
  case y2_76 => (intro w hSw; (try dsimp only at hSw); go_simp; (try with_reducible rfl))
  try simp only [Act.put, List.getElem_toArray, List.getElem_cons_zero, List.getElem_cons_succ, List.setIfInBounds_toArray, List.set_cons_zero, List.set_cons_succ]
  refine wpAnyH_take (i := 3) (v := ?v3_77) rfl (by kernel_rfl) (by kernel_rfl) (by kernel_rfl) (fun _ _ _ h => h) (Or.inl ⟨by kernel_rfl, ?y3_77⟩) (by assumption) ?r3_77
  case y3_77 => (intro w hSw; (try dsimp only at hSw); go_simp; (try with_reducible rfl))
  try simp only [Act.put, List.getElem_toArray, List.getElem_cons_zero, List.getElem_cons_succ, List.setIfInBounds_toArray, List.set_cons_zero, List.set_cons_succ]
  refine wpAnyH_take (i := 4) (v := ?v4_78) rfl (by kernel_rfl) (by kernel_rfl) (by kernel_rfl) (fun _ _ _ h => h) (Or.inl ⟨by kernel_rfl, ?y4_78⟩) (by assumption) ?r4_78
  case y4_78 => (intro w hSw; (try dsimp only at hSw); go_simp; (try with_reducible rfl))
  try simp only [Act.put, List.getElem_toArray, List.getElem_cons_zero, List.getElem_cons_succ, List.setIfInBounds_toArray, List.set_cons_zero, List.set_cons_succ]
  refine wpAnyH_take (i := 5) (v := ?v5_79) rfl (by kernel_rfl) (by kernel_rfl) (by kernel_rfl) (fun _ _ _ h => h) (Or.inl ⟨by kernel_rfl, ?y5_79⟩) (by assumption) ?r5_79
  case y5_79 => (intro w hSw; (try dsimp only at hSw); go_simp; (try with_reducible rfl))
  try simp only [Act.put, List.getElem_toArray, List.getElem_cons_zero, List.getElem_cons_succ, List.setIfInBounds_toArray, List.set_cons_zero, List.set_cons_succ]
  refine wpAnyH_ready (rs := [6]) (by kernel_rfl) (by simp) ?_
  refine AllReadyH.cons rfl (fun K hK => ?_) AllReadyH.nil
  go_simp
  refine hK.out _ _ K1.out.1 (fun hHeld => ?_)
  clear hK K
  refine wpAnyH_ready (rs := [7]) (by kernel_rfl) (by simp) ?_
  refine AllReadyH.cons rfl (fun K hK => ?_) AllReadyH.nil
  go_simp
  refine K1.out.2.mono ?_
  rintro r w2 ⟨g1, ⟨b, rfl⟩, g2⟩
  have KG := Lib.hid g2
  clear g2
  refine hK.out _ _ g1 (fun hHeld => ?_)
  clear hK K
  refine wpAnyH_take (i := 8) (v := ?v8_17) rfl (by kernel_rfl) (by kernel_rfl) (by kernel_rfl) (fun _ _ _ h => h) (Or.inl ⟨by kernel_rfl, ?y8_17⟩) (by assumption) ?r8_17
  case y8_17 => (intro w hSw; (try dsimp only at hSw); go_simp; (try with_reducible rfl))
  try simp only [Act.put, List.getElem_toArray, List.getElem_cons_zero, List.getElem_cons_succ, List.setIfInBounds_toArray, List.set_cons_zero, List.set_cons_succ]
  refine wpAnyH_done (by kernel_rfl) ?_ _
  go_wp2
  go_ret
  exact KG.out
set_option maxHeartbeats 1600000 in
theorem eff15 {B W St : Nat} {x : Wx} {S : List (List Int)} {L V R : Value} {s : Sv} {P : Pv} {cs : List Cd} {w : World} (a : Int) (h : EfP B W St x S L V R s P cs w) :
    Calls Tryd.prog 26 #[.pointer (some ⟨W, 0, none⟩), .pointer (some ⟨St, 0, none⟩), .agg #[.int .i64 15, .int .i64 a]] w (EfQ B W St x S V R P 15 a s w) := by
  have h0 := ef0 h 15 a
  obtain ⟨w1, hw1⟩ : ∃ w1, w.alloc (.cells #[.int .i64 15, .int .i64 a] 35) = w1 := ⟨_, rfl⟩
  rw [hw1] at h0
  have HW := Lib.hid hw1
  obtain ⟨b0, b1, _⟩ := h0.e.all
  have HR : Hid (EfQ B W St x S V R P 15 a s w (.returned (.bool true)) w1) := by
    show EffQ B W St x S V R (stepV P (15, a) s) w _ w1
    have e : stepV P (15, a) s = some s := by
      unfold stepV
      simp only [show ¬ ((15 : Int) = 1) by decide, show ¬ ((15 : Int) = 2) by decide, show ¬ ((15 : Int) = 3) by decide, show ¬ ((15 : Int) = 4) by decide, show ¬ ((15 : Int) = 5) by decide, show ¬ ((15 : Int) = 6) by decide, show ¬ ((15 : Int) = 7) by decide, show ¬ ((15 : Int) = 8) by decide, show ¬ ((15 : Int) = 9) by decide, show ¬ ((15 : Int) = 10) by decide, show ¬ ((15 : Int) = 11) by decide, show ¬ ((15 : Int) = 12) by decide, show ¬ ((15 : Int) = 13) by decide, show ¬ ((15 : Int) = 14) by decide, if_false, if_true]
    rw [e]
    exact eff_same h0.p.st h0.mt
  clear h h0 hw1
  go_enter Tryd.func26, Tryd.ntmps26
  go_upto_region 1 with fail
  rw [HW.out]
  go_wp2
  go_ret
  exact HR.out
end Go.Proofs.YtilmidjkjgeoeaaDoor
