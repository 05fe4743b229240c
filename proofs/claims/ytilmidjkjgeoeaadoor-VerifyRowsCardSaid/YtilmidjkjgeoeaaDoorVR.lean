/- What a call and a return do; what any instruction does. Conditions: those in each theorem. -/
import Derived.Test.YtilmidjkjgeoeaaDoorVQ
namespace Go.Proofs.YtilmidjkjgeoeaaDoor
open Go.RowKit Go.MapKept
set_option maxRecDepth 100000
set_option linter.unusedVariables false
set_option linter.unusedSimpArgs false
theorem tyat_row {w : World} {B St : Nat} {U : Value} {ps : List Int} (h : RowL w B ps.length (tysV ps) U) (hB : B ≤ St) (hw : B ≤ w.heap.size) : TyAt w St U ps := by
  obtain ⟨A, c, rfl, h1, h2, h3⟩ := h
  refine ⟨A, c, rfl, h1, h2, fun j t hj => ?_⟩
  obtain ⟨b, o, e, hb, hc⟩ := lies_flat h3 (tysV_at hj)
  exact ⟨b, o, e, by omega, by omega, hc j _ (tysV_at hj)⟩
/-- the instruction's box, and a code's cells -/
structure EfC (bx : Nat) (k a : Int) (b o j : Nat) (n : ByteArray) (U I : Value) (t sl : Int) (w : World) : Prop where
  box : w.heap[bx]? = some (.cells #[.int .i64 k, .int .i64 a] 35 (0, 0))
  d0 : w.cell? ⟨b, o + j * 5, none⟩ = some (.string n)
  d1 : w.cell? ⟨b, o + j * 5 + 1, none⟩ = some U
  d2 : w.cell? ⟨b, o + j * 5 + 2, none⟩ = some (.int .i64 t)
  d3 : w.cell? ⟨b, o + j * 5 + 3, none⟩ = some (.int .i64 sl)
  d4 : w.cell? ⟨b, o + j * 5 + 4, none⟩ = some I
theorem EfC.all {bx : Nat} {k a : Int} {b o j : Nat} {n : ByteArray} {U I : Value} {t sl : Int} {w : World} (h : EfC bx k a b o j n U I t sl w) : w.cell? ⟨bx, 0, none⟩ = some (.int .i64 k) ∧ w.cell? ⟨bx, 1, none⟩ = some (.int .i64 a) ∧ w.cell? ⟨b, o + j * 5, none⟩ = some (.string n) ∧ w.cell? ⟨b, o + j * 5 + 1, none⟩ = some U ∧ w.cell? ⟨b, o + j * 5 + 2, none⟩ = some (.int .i64 t) ∧ w.cell? ⟨b, o + j * 5 + 3, none⟩ = some (.int .i64 sl) ∧ w.cell? ⟨b, o + j * 5 + 4, none⟩ = some I :=
  ⟨cell_at h.box rfl, cell_at h.box rfl, h.d0, h.d1, h.d2, h.d3, h.d4⟩
theorem EfC.mt {B bx : Nat} {k a : Int} {b o j : Nat} {n : ByteArray} {U I : Value} {t sl : Int} {w w' : World} (h : EfC bx k a b o j n U I t sl w) (hm : Mt B tsP w w') (hb : b < B) : EfC bx k a b o j n U I t sl w' :=
  ⟨hm.kept _ _ _ _ h.box (by unfold tsP; decide), hm.low.cell_is hb h.d0, hm.low.cell_is hb h.d1, hm.low.cell_is hb h.d2, hm.low.cell_is hb h.d3, hm.low.cell_is hb h.d4⟩
theorem EffQ.mt {B W St : Nat} {x : Wx} {S : List (List Int)} {V R : Value} {o : Option Sv} {r : Ending} {w w' : World} (h : EffQ B W St x S V R o w r w') : Mt B tsP w w' ∧ ∃ b, r = .returned (.bool b) := by
  rcases h with ⟨s', _, _, e, E', S', L', _, _, _, hm⟩ | ⟨_, e, hm⟩
  · exact ⟨hm, _, e⟩
  · exact ⟨hm, _, e⟩
theorem EffQ.from {B W St : Nat} {x : Wx} {S : List (List Int)} {V R : Value} {o : Option Sv} {r : Ending} {w0 w w' : World} (h : EffQ B W St x S V R o w r w') (hm : Mt B tsP w0 w) : EffQ B W St x S V R o w0 r w' := by
  rcases h with ⟨s', g1, g2, e, E', S', L', q1, q2, q3, q4⟩ | ⟨g1, e, q4⟩
  · exact .inl ⟨s', g1, g2, e, E', S', L', q1, q2, q3, hm.trans q4⟩
  · exact .inr ⟨g1, e, hm.trans q4⟩
set_option maxHeartbeats 1600000 in
theorem eff14 {B W St : Nat} {x : Wx} {S : List (List Int)} {L V R : Value} {s : Sv} {P : Pv} {cs : List Cd} {w : World} (a : Int) (h : EfP B W St x S L V R s P cs w) :
    Calls Tryd.prog 26 #[.pointer (some ⟨W, 0, none⟩), .pointer (some ⟨St, 0, none⟩), .agg #[.int .i64 14, .int .i64 a]] w (EfQ B W St x S V R P 14 a s w) := by
  have h0 := ef0 h 14 a
  obtain ⟨w1, hw1⟩ : ∃ w1, w.alloc (.cells #[.int .i64 14, .int .i64 a] 35) = w1 := ⟨_, rfl⟩
  rw [hw1] at h0
  have HW := Lib.hid hw1
  obtain ⟨b0, b1, _⟩ := h0.e.all
  obtain ⟨A, cc, vs, hCe, hc1, hc2, hc3, hc4⟩ := h0.p.hC
  have H0 := Lib.hid h0
  have HC := Lib.hid hCe
  unfold maxLen at hc2
  have hcl := h0.p.hcs
  have hhW := h0.hW
  by_cases ha : 0 ≤ a ∧ a < (cs.length : Int)
  · obtain ⟨j, hja⟩ : ∃ j : Nat, a = j := ⟨a.toNat, by omega⟩
    have hjl : j < cs.length := by omega
    obtain ⟨c, hj⟩ : ∃ c, cs[j]? = some c := ⟨cs[j], List.getElem?_eq_getElem hjl⟩
    obtain ⟨U, I, hU, hI, hcell⟩ := hc4.get hj
    obtain ⟨b, o, hA, hbB, hcs⟩ := lies_flat hc3 (hcell 0 _ rfl)
    have HCC : Hid (EfC w.heap.size 14 a b o j (strOfNums c.name) U I c.result c.slots w1.drew) := Lib.hid ⟨h0.e.box, hcs _ _ (hcell 0 _ rfl), hcs _ _ (hcell 1 _ rfl), hcs _ _ (hcell 2 _ rfl), hcs _ _ (hcell 3 _ rfl), hcs _ _ (hcell 4 _ rfl)⟩
    have hok := h0.p.hok c (List.mem_of_getElem? hj)
    have HE : Hid (stepV P (14, a) s = callV s c.params c.result) := by
      show _ = _
      unfold stepV callV
      simp only [show ¬ ((14 : Int) = 1) by decide, show ¬ ((14 : Int) = 2) by decide, show ¬ ((14 : Int) = 3) by decide, show ¬ ((14 : Int) = 4) by decide, show ¬ ((14 : Int) = 5) by decide, show ¬ ((14 : Int) = 6) by decide, show ¬ ((14 : Int) = 7) by decide, show ¬ ((14 : Int) = 8) by decide, show ¬ ((14 : Int) = 9) by decide, show ¬ ((14 : Int) = 10) by decide, show ¬ ((14 : Int) = 11) by decide, show ¬ ((14 : Int) = 12) by decide, show ¬ ((14 : Int) = 13) by decide, if_false, if_true]
      rw [if_pos (by omega), show a.toNat = j by omega, h0.p.hfs, List.getElem?_map, hj]
      rfl
    have hU1 : TyAt w1.drew St U c.params := tyat_row (hU.below ((Below.refl B w1).drew)) h0.p.st.hB h0.hB1
    have K1 : Hid (Calls Tryd.prog 44 #[.pointer (some ⟨W, 0, none⟩), .pointer (some ⟨St, 0, none⟩), .agg #[.string (strOfNums c.name), U, .int .i64 c.result, .int .i64 c.slots, I]] w1.drew fun r w' => EfC w.heap.size 14 a b o j (strOfNums c.name) U I c.result c.slots w' ∧ (∃ b, r = .returned (.bool b)) ∧ EffQ B W St x S V R (callV s c.params c.result) w r w') := by
      refine (callS (strOfNums c.name) U I c.params c.result c.slots h0.drew.p.st hU1 hok.1 hok.2 h0.p.hl).mono ?_
      intro r w' hq
      have hq' : EffQ B W St x S V R (callV s c.params c.result) w1.drew r w' := hq
      exact ⟨HCC.out.mt hq'.mt.1 hbB, hq'.mt.2, hq'.from h0.drew.m⟩
    have K0 := Lib.hid (withinY a cs.length w1.drew ha)
    obtain ⟨_, _, w2c, _⟩ := h0.e.all
    subst hA
    rw [hCe] at w2c
    have w2d : w1.drew.cell? ⟨W, 2, none⟩ = some (.slice (some ⟨b, o, none⟩) cs.length cc) := w2c
    have hjI : (j : Int) < (cs.length : Int) := by omega
    have hj0 : (0 : Int) ≤ (j : Int) := by omega
    unfold EfQ
    rw [HE.out]
    generalize callV s c.params c.result = oo at *
    clear h h0 hw1 hU hI hcell hcs hok HE hU1 hj hjl hc3 hc4 hCe
    subst hja
    have HS := HCC
    go_enter Tryd.func26, Tryd.ntmps26
    go_upto_region 1 with fail
    rw [HW.out]
    go_upto_region 31 with fail
    refine wp_region_held_drew (S := fun w' => EfC w.heap.size 14 (j : Int) b o j (strOfNums c.name) U I c.result c.slots w') (by kernel_rfl) HS.out (fun hHeld => ?_)
    refine wpAnyH_take (i := 0) (v := ?v0_1) rfl (by kernel_rfl) (by kernel_rfl) (by kernel_rfl) (fun _ _ _ h => h) (Or.inl ⟨by kernel_rfl, ?y0_1⟩) (by assumption) ?r0_1
    case y0_1 => (intro w hSw; (try dsimp only at hSw); go_simp; (try with_reducible rfl))
    try simp only [Act.put, List.getElem_toArray, List.getElem_cons_zero, List.getElem_cons_succ, List.setIfInBounds_toArray, List.set_cons_zero, List.set_cons_succ]
    refine wpAnyH_take (i := 1) (v := ?v1_2) rfl (by kernel_rfl) (by kernel_rfl) (by kernel_rfl) (fun _ _ _ h => h) (Or.inl ⟨by kernel_rfl, ?y1_2⟩) (by assumption) ?r1_2
    case y1_2 => (intro w hSw; obtain ⟨q0, q1, d0, d1, d2, d3, d4⟩ := hSw.all; (try dsimp only at hSw); go_simp; (try with_reducible rfl))
    try simp only [Act.put, List.getElem_toArray, List.getElem_cons_zero, List.getElem_cons_succ, List.setIfInBounds_toArray, List.set_cons_zero, List.set_cons_succ]
    refine wpAnyH_take (i := 2) (v := ?v2_25) rfl (by kernel_rfl) (by kernel_rfl) (by kernel_rfl) (fun _ _ _ h => h) (Or.inl ⟨by kernel_rfl, ?y2_25⟩) (by assumption) ?r2_25
    case y2_25 => (intro w hSw; (try dsimp only at hSw); go_simp; (try with_reducible rfl))
    try simp only [Act.put, List.getElem_toArray, List.getElem_cons_zero, List.getElem_cons_succ, List.setIfInBounds_toArray, List.set_cons_zero, List.set_cons_succ]
    refine wpAnyH_take (i := 3) (v := ?v3_26) rfl (by kernel_rfl) (by kernel_rfl) (by kernel_rfl) (fun _ _ _ h => h) (Or.inl ⟨by kernel_rfl, ?y3_26⟩) (by assumption) ?r3_26
    case y3_26 => (intro w hSw; (try dsimp only at hSw); go_simp; (try with_reducible rfl))
    try simp only [Act.put, List.getElem_toArray, List.getElem_cons_zero, List.getElem_cons_succ, List.setIfInBounds_toArray, List.set_cons_zero, List.set_cons_succ]
    refine wpAnyH_take (i := 4) (v := ?v4_27) rfl (by kernel_rfl) (by kernel_rfl) (by kernel_rfl) (fun _ _ _ h => h) (Or.inl ⟨by kernel_rfl, ?y4_27⟩) (by assumption) ?r4_27
    case y4_27 => (intro w hSw; (try dsimp only at hSw); go_simp; (try with_reducible rfl))
    try simp only [Act.put, List.getElem_toArray, List.getElem_cons_zero, List.getElem_cons_succ, List.setIfInBounds_toArray, List.set_cons_zero, List.set_cons_succ]
    refine wpAnyH_take (i := 5) (v := ?v5_28) rfl (by kernel_rfl) (by kernel_rfl) (by kernel_rfl) (fun _ _ _ h => h) (Or.inl ⟨by kernel_rfl, ?y5_28⟩) (by assumption) ?r5_28
    case y5_28 => (intro w hSw; (try dsimp only at hSw); go_simp; (try with_reducible rfl))
    try simp only [Act.put, List.getElem_toArray, List.getElem_cons_zero, List.getElem_cons_succ, List.setIfInBounds_toArray, List.set_cons_zero, List.set_cons_succ]
    refine wpAnyH_ready (rs := [6]) (by kernel_rfl) (by simp) ?_
    refine AllReadyH.cons rfl (fun K hK => ?_) AllReadyH.nil
    go_simp
    refine hK.out _ _ HS.out (fun hHeld => ?_)
    clear hK K
    refine wpAnyH_take (i := 7) (v := ?v7_3) rfl (by kernel_rfl) (by kernel_rfl) (by kernel_rfl) (fun _ _ _ h => h) (Or.inl ⟨by kernel_rfl, ?y7_3⟩) (by assumption) ?r7_3
    case y7_3 => (intro w hSw; (try dsimp only at hSw); go_simp; (try with_reducible rfl))
    try simp only [Act.put, List.getElem_toArray, List.getElem_cons_zero, List.getElem_cons_succ, List.setIfInBounds_toArray, List.set_cons_zero, List.set_cons_succ]
    refine wpAnyH_ready (rs := [8]) (by kernel_rfl) (by simp) ?_
    refine AllReadyH.cons rfl (fun K hK => ?_) AllReadyH.nil
    go_simp
    refine K0.out.mono ?_
    rintro r w2 ⟨rfl, rfl⟩
    refine hK.out _ _ HS.out (fun hHeld => ?_)
    clear hK K
    refine wpAnyH_take (i := 9) (v := ?v9_29) rfl (by kernel_rfl) (by kernel_rfl) (by kernel_rfl) (fun _ _ _ h => h) (Or.inl ⟨by kernel_rfl, ?y9_29⟩) (by assumption) ?r9_29
    case y9_29 => (intro w hSw; (try dsimp only at hSw); go_simp; (try with_reducible rfl))
    try simp only [Act.put, List.getElem_toArray, List.getElem_cons_zero, List.getElem_cons_succ, List.setIfInBounds_toArray, List.set_cons_zero, List.set_cons_succ]
    refine wpAnyH_take (i := 10) (v := ?v10_30) rfl (by kernel_rfl) (by kernel_rfl) (by kernel_rfl) (fun _ _ _ h => h) (Or.inl ⟨by kernel_rfl, ?y10_30⟩) (by assumption) ?r10_30
    case y10_30 => (intro w hSw; (try dsimp only at hSw); go_simp; (try with_reducible rfl))
    try simp only [Act.put, List.getElem_toArray, List.getElem_cons_zero, List.getElem_cons_succ, List.setIfInBounds_toArray, List.set_cons_zero, List.set_cons_succ]
    refine wpAnyH_take (i := 11) (v := ?v11_31) rfl (by kernel_rfl) (by kernel_rfl) (by kernel_rfl) (fun _ _ _ h => h) (Or.inl ⟨by kernel_rfl, ?y11_31⟩) (by assumption) ?r11_31
    case y11_31 => (intro w hSw; (try dsimp only at hSw); go_simp; (try with_reducible rfl))
    try simp only [Act.put, List.getElem_toArray, List.getElem_cons_zero, List.getElem_cons_succ, List.setIfInBounds_toArray, List.set_cons_zero, List.set_cons_succ]
    refine wpAnyH_take (i := 12) (v := ?v12_32) rfl (by kernel_rfl) (by kernel_rfl) (by kernel_rfl) (fun _ _ _ h => h) (Or.inl ⟨by kernel_rfl, ?y12_32⟩) (by assumption) ?r12_32
    case y12_32 => (intro w hSw; (try dsimp only at hSw); go_simp; (try with_reducible rfl))
    try simp only [Act.put, List.getElem_toArray, List.getElem_cons_zero, List.getElem_cons_succ, List.setIfInBounds_toArray, List.set_cons_zero, List.set_cons_succ]
    refine wpAnyH_take (i := 13) (v := ?v13_33) rfl (by kernel_rfl) (by kernel_rfl) (by kernel_rfl) (fun _ _ _ h => h) (Or.inl ⟨by kernel_rfl, ?y13_33⟩) (by assumption) ?r13_33
    case y13_33 => (intro w hSw; (try dsimp only at hSw); go_simp; (try with_reducible rfl))
    try simp only [Act.put, List.getElem_toArray, List.getElem_cons_zero, List.getElem_cons_succ, List.setIfInBounds_toArray, List.set_cons_zero, List.set_cons_succ]
    refine wpAnyH_take (i := 14) (v := ?v14_34) rfl (by kernel_rfl) (by kernel_rfl) (by kernel_rfl) (fun _ _ _ h => h) (Or.inl ⟨by kernel_rfl, ?y14_34⟩) (by assumption) ?r14_34
    case y14_34 => (intro w hSw; (try dsimp only at hSw); go_simp; (try with_reducible rfl))
    try simp only [Act.put, List.getElem_toArray, List.getElem_cons_zero, List.getElem_cons_succ, List.setIfInBounds_toArray, List.set_cons_zero, List.set_cons_succ]
    refine wpAnyH_take (i := 15) (v := ?v15_35) rfl (by kernel_rfl) (by kernel_rfl) (by kernel_rfl) (fun _ _ _ h => h) (Or.inl ⟨by kernel_rfl, ?y15_35⟩) (by assumption) ?r15_35
    case y15_35 => (intro w hSw; (try dsimp only at hSw); go_simp; (try with_reducible rfl))
    try simp only [Act.put, List.getElem_toArray, List.getElem_cons_zero, List.getElem_cons_succ, List.setIfInBounds_toArray, List.set_cons_zero, List.set_cons_succ]
    refine wpAnyH_take (i := 17) (v := ?v17_4) rfl (by kernel_rfl) (by kernel_rfl) (by kernel_rfl) (fun _ _ _ h => h) (Or.inl ⟨by kernel_rfl, ?y17_4⟩) (by assumption) ?r17_4
    case y17_4 => (intro w hSw; (try dsimp only at hSw); go_simp; (try with_reducible rfl))
    try simp only [Act.put, List.getElem_toArray, List.getElem_cons_zero, List.getElem_cons_succ, List.setIfInBounds_toArray, List.set_cons_zero, List.set_cons_succ]
    refine wpAnyH_take (i := 18) (v := ?v18_5) rfl (by kernel_rfl) (by kernel_rfl) (by kernel_rfl) (fun _ _ _ h => h) (Or.inl ⟨by kernel_rfl, ?y18_5⟩) (by assumption) ?r18_5
    case y18_5 => (intro w hSw; obtain ⟨q0, q1, d0, d1, d2, d3, d4⟩ := hSw.all; (try dsimp only at hSw); go_simp; (try with_reducible rfl))
    try simp only [Act.put, List.getElem_toArray, List.getElem_cons_zero, List.getElem_cons_succ, List.setIfInBounds_toArray, List.set_cons_zero, List.set_cons_succ]
    refine wpAnyH_ready (rs := [16]) (by kernel_rfl) (by simp) ?_
    refine AllReadyH.cons rfl (fun K hK => ?_) AllReadyH.nil
    go_simp
    refine hK.out _ _ HS.out (fun hHeld => ?_)
    clear hK K
    refine wpAnyH_take (i := 19) (v := ?v19_6) rfl (by kernel_rfl) (by kernel_rfl) (by kernel_rfl) (fun _ _ _ h => h) (Or.inl ⟨by kernel_rfl, ?y19_6⟩) (by assumption) ?r19_6
    case y19_6 => (intro w hSw; (try dsimp only at hSw); go_simp; (try with_reducible rfl))
    try simp only [Act.put, List.getElem_toArray, List.getElem_cons_zero, List.getElem_cons_succ, List.setIfInBounds_toArray, List.set_cons_zero, List.set_cons_succ]
    refine wpAnyH_take (i := 20) (v := ?v20_7) rfl (by kernel_rfl) (by kernel_rfl) (by kernel_rfl) (fun _ _ _ h => h) (Or.inl ⟨by kernel_rfl, ?y20_7⟩) (by assumption) ?r20_7
    case y20_7 => (intro w hSw; obtain ⟨q0, q1, d0, d1, d2, d3, d4⟩ := hSw.all; (try dsimp only at hSw); go_simp; (try with_reducible rfl))
    try simp only [Act.put, List.getElem_toArray, List.getElem_cons_zero, List.getElem_cons_succ, List.setIfInBounds_toArray, List.set_cons_zero, List.set_cons_succ]
    refine wpAnyH_ready (rs := [21]) (by kernel_rfl) (by simp) ?_
    refine AllReadyH.cons rfl (fun K hK => ?_) AllReadyH.nil
    go_simp
    refine K1.out.mono ?_
    rintro r w3 ⟨g1, ⟨bb, rfl⟩, g2⟩
    have KG := Lib.hid g2
    clear g2
    refine hK.out _ _ g1 (fun hHeld => ?_)
    clear hK K
    refine wpAnyH_take (i := 22) (v := ?v22_36) rfl (by kernel_rfl) (by kernel_rfl) (by kernel_rfl) (fun _ _ _ h => h) (Or.inl ⟨by kernel_rfl, ?y22_36⟩) (by assumption) ?r22_36
    case y22_36 => (intro w hSw; (try dsimp only at hSw); go_simp; (try with_reducible rfl))
    try simp only [Act.put, List.getElem_toArray, List.getElem_cons_zero, List.getElem_cons_succ, List.setIfInBounds_toArray, List.set_cons_zero, List.set_cons_succ]
    refine wpAnyH_take (i := 23) (v := ?v23_37) rfl (by kernel_rfl) (by kernel_rfl) (by kernel_rfl) (fun _ _ _ h => h) (Or.inl ⟨by kernel_rfl, ?y23_37⟩) (by assumption) ?r23_37
    case y23_37 => (intro w hSw; (try dsimp only at hSw); go_simp; (try with_reducible rfl))
    try simp only [Act.put, List.getElem_toArray, List.getElem_cons_zero, List.getElem_cons_succ, List.setIfInBounds_toArray, List.set_cons_zero, List.set_cons_succ]
    refine wpAnyH_done (by kernel_rfl) ?_ _
    go_wp2
    go_ret
    exact KG.out
  · have HR : Hid (EfQ B W St x S V R P 14 a s w (.returned (.bool false)) w1.drew) := by
      show EffQ B W St x S V R (stepV P (14, a) s) w _ _
      have e : stepV P (14, a) s = none := by
        unfold stepV
        simp only [show ¬ ((14 : Int) = 1) by decide, show ¬ ((14 : Int) = 2) by decide, show ¬ ((14 : Int) = 3) by decide, show ¬ ((14 : Int) = 4) by decide, show ¬ ((14 : Int) = 5) by decide, show ¬ ((14 : Int) = 6) by decide, show ¬ ((14 : Int) = 7) by decide, show ¬ ((14 : Int) = 8) by decide, show ¬ ((14 : Int) = 9) by decide, show ¬ ((14 : Int) = 10) by decide, show ¬ ((14 : Int) = 11) by decide, show ¬ ((14 : Int) = 12) by decide, show ¬ ((14 : Int) = 13) by decide, if_false, if_true]
        by_cases hz : 0 ≤ a
        · rw [if_pos hz, h0.p.hfs, List.getElem?_eq_none (by simp; omega)]
        · rw [if_neg hz]
      rw [e]
      exact eff_none H0.out.drew.mt
    have K0 := Lib.hid (withinN a cs.length w1.drew ha)
    have HS : Hid (EfS W w.heap.size 14 a x w1.drew) := Lib.hid h0.drew.e
    clear h h0 hw1 hc3 hc4 hCe
    go_enter Tryd.func26, Tryd.ntmps26
    go_upto_region 1 with fail
    rw [HW.out]
    go_upto_region 31 with fail
    refine wp_region_held_drew (S := fun w' => EfS W w.heap.size 14 a x w') (by kernel_rfl) HS.out (fun hHeld => ?_)
    refine wpAnyH_take (i := 0) (v := ?v0_8) rfl (by kernel_rfl) (by kernel_rfl) (by kernel_rfl) (fun _ _ _ h => h) (Or.inl ⟨by kernel_rfl, ?y0_8⟩) (by assumption) ?r0_8
    case y0_8 => (intro w hSw; (try dsimp only at hSw); go_simp; (try with_reducible rfl))
    try simp only [Act.put, List.getElem_toArray, List.getElem_cons_zero, List.getElem_cons_succ, List.setIfInBounds_toArray, List.set_cons_zero, List.set_cons_succ]
    refine wpAnyH_take (i := 1) (v := ?v1_9) rfl (by kernel_rfl) (by kernel_rfl) (by kernel_rfl) (fun _ _ _ h => h) (Or.inl ⟨by kernel_rfl, ?y1_9⟩) (by assumption) ?r1_9
    case y1_9 => (intro w hSw; obtain ⟨q0, q1, q2, q3, q7⟩ := hSw.all; (try dsimp only at hSw); go_simp; (try with_reducible rfl))
    try simp only [Act.put, List.getElem_toArray, List.getElem_cons_zero, List.getElem_cons_succ, List.setIfInBounds_toArray, List.set_cons_zero, List.set_cons_succ]
    refine wpAnyH_take (i := 2) (v := ?v2_38) rfl (by kernel_rfl) (by kernel_rfl) (by kernel_rfl) (fun _ _ _ h => h) (Or.inl ⟨by kernel_rfl, ?y2_38⟩) (by assumption) ?r2_38
    case y2_38 => (intro w hSw; (try dsimp only at hSw); go_simp; (try with_reducible rfl))
    try simp only [Act.put, List.getElem_toArray, List.getElem_cons_zero, List.getElem_cons_succ, List.setIfInBounds_toArray, List.set_cons_zero, List.set_cons_succ]
    refine wpAnyH_take (i := 3) (v := ?v3_39) rfl (by kernel_rfl) (by kernel_rfl) (by kernel_rfl) (fun _ _ _ h => h) (Or.inl ⟨by kernel_rfl, ?y3_39⟩) (by assumption) ?r3_39
    case y3_39 => (intro w hSw; (try dsimp only at hSw); go_simp; (try with_reducible rfl))
    try simp only [Act.put, List.getElem_toArray, List.getElem_cons_zero, List.getElem_cons_succ, List.setIfInBounds_toArray, List.set_cons_zero, List.set_cons_succ]
    refine wpAnyH_take (i := 4) (v := ?v4_40) rfl (by kernel_rfl) (by kernel_rfl) (by kernel_rfl) (fun _ _ _ h => h) (Or.inl ⟨by kernel_rfl, ?y4_40⟩) (by assumption) ?r4_40
    case y4_40 => (intro w hSw; (try dsimp only at hSw); go_simp; (try with_reducible rfl))
    try simp only [Act.put, List.getElem_toArray, List.getElem_cons_zero, List.getElem_cons_succ, List.setIfInBounds_toArray, List.set_cons_zero, List.set_cons_succ]
    refine wpAnyH_take (i := 5) (v := ?v5_41) rfl (by kernel_rfl) (by kernel_rfl) (by kernel_rfl) (fun _ _ _ h => h) (Or.inl ⟨by kernel_rfl, ?y5_41⟩) (by assumption) ?r5_41
    case y5_41 => (intro w hSw; (try dsimp only at hSw); go_simp; (try with_reducible rfl))
    try simp only [Act.put, List.getElem_toArray, List.getElem_cons_zero, List.getElem_cons_succ, List.setIfInBounds_toArray, List.set_cons_zero, List.set_cons_succ]
    refine wpAnyH_take (i := 6) (v := ?v6_10) rfl (by kernel_rfl) (by kernel_rfl) (by kernel_rfl) (fun _ _ _ h => h) (Or.inl ⟨by kernel_rfl, ?y6_10⟩) (by assumption) ?r6_10
    case y6_10 => (intro w hSw; obtain ⟨q0, q1, q2, q3, q7⟩ := hSw.all; rw [HC.out] at q2; (try dsimp only at hSw); go_simp; (try with_reducible rfl))
    try simp only [Act.put, List.getElem_toArray, List.getElem_cons_zero, List.getElem_cons_succ, List.setIfInBounds_toArray, List.set_cons_zero, List.set_cons_succ]
    refine wpAnyH_take (i := 7) (v := ?v7_11) rfl (by kernel_rfl) (by kernel_rfl) (by kernel_rfl) (fun _ _ _ h => h) (Or.inl ⟨by kernel_rfl, ?y7_11⟩) (by assumption) ?r7_11
    case y7_11 => (intro w hSw; (try dsimp only at hSw); go_simp; (try with_reducible rfl))
    try simp only [Act.put, List.getElem_toArray, List.getElem_cons_zero, List.getElem_cons_succ, List.setIfInBounds_toArray, List.set_cons_zero, List.set_cons_succ]
    refine wpAnyH_ready (rs := [8]) (by kernel_rfl) (by simp) ?_
    refine AllReadyH.cons rfl (fun K hK => ?_) AllReadyH.nil
    go_simp
    refine K0.out.mono ?_
    rintro r w2 ⟨rfl, rfl⟩
    refine hK.out _ _ HS.out (fun hHeld => ?_)
    clear hK K
    refine wpAnyH_take (i := 9) (v := ?v9_12) rfl (by kernel_rfl) (by kernel_rfl) (by kernel_rfl) (fun _ _ _ h => h) (Or.inl ⟨by kernel_rfl, ?y9_12⟩) (by assumption) ?r9_12
    case y9_12 => (intro w hSw; (try dsimp only at hSw); go_simp; (try with_reducible rfl))
    try simp only [Act.put, List.getElem_toArray, List.getElem_cons_zero, List.getElem_cons_succ, List.setIfInBounds_toArray, List.set_cons_zero, List.set_cons_succ]
    refine wpAnyH_take (i := 10) (v := undef) rfl (by kernel_rfl) (by kernel_rfl) (by kernel_rfl) (fun _ _ _ h => h) (Or.inr ⟨by kernel_rfl, rfl⟩) (by assumption) ?_
    try simp only [Act.put, List.getElem_toArray, List.getElem_cons_zero, List.getElem_cons_succ, List.setIfInBounds_toArray, List.set_cons_zero, List.set_cons_succ]
    refine wpAnyH_take (i := 11) (v := undef) rfl (by kernel_rfl) (by kernel_rfl) (by kernel_rfl) (fun _ _ _ h => h) (Or.inr ⟨by kernel_rfl, rfl⟩) (by assumption) ?_
    try simp only [Act.put, List.getElem_toArray, List.getElem_cons_zero, List.getElem_cons_succ, List.setIfInBounds_toArray, List.set_cons_zero, List.set_cons_succ]
    refine wpAnyH_take (i := 12) (v := undef) rfl (by kernel_rfl) (by kernel_rfl) (by kernel_rfl) (fun _ _ _ h => h) (Or.inr ⟨by kernel_rfl, rfl⟩) (by assumption) ?_
    try simp only [Act.put, List.getElem_toArray, List.getElem_cons_zero, List.getElem_cons_succ, List.setIfInBounds_toArray, List.set_cons_zero, List.set_cons_succ]
    refine wpAnyH_take (i := 13) (v := undef) rfl (by kernel_rfl) (by kernel_rfl) (by kernel_rfl) (fun _ _ _ h => h) (Or.inr ⟨by kernel_rfl, rfl⟩) (by assumption) ?_
    try simp only [Act.put, List.getElem_toArray, List.getElem_cons_zero, List.getElem_cons_succ, List.setIfInBounds_toArray, List.set_cons_zero, List.set_cons_succ]
    refine wpAnyH_take (i := 14) (v := undef) rfl (by kernel_rfl) (by kernel_rfl) (by kernel_rfl) (fun _ _ _ h => h) (Or.inr ⟨by kernel_rfl, rfl⟩) (by assumption) ?_
    try simp only [Act.put, List.getElem_toArray, List.getElem_cons_zero, List.getElem_cons_succ, List.setIfInBounds_toArray, List.set_cons_zero, List.set_cons_succ]
    refine wpAnyH_take (i := 15) (v := undef) rfl (by kernel_rfl) (by kernel_rfl) (by kernel_rfl) (fun _ _ _ h => h) (Or.inr ⟨by kernel_rfl, rfl⟩) (by assumption) ?_
    try simp only [Act.put, List.getElem_toArray, List.getElem_cons_zero, List.getElem_cons_succ, List.setIfInBounds_toArray, List.set_cons_zero, List.set_cons_succ]
    refine wpAnyH_take (i := 16) (v := undef) rfl (by kernel_rfl) (by kernel_rfl) (by kernel_rfl) (fun _ _ _ h => h) (Or.inr ⟨by kernel_rfl, rfl⟩) (by assumption) ?_
    try simp only [Act.put, List.getElem_toArray, List.getElem_cons_zero, List.getElem_cons_succ, List.setIfInBounds_toArray, List.set_cons_zero, List.set_cons_succ]
    refine wpAnyH_take (i := 17) (v := undef) rfl (by kernel_rfl) (by kernel_rfl) (by kernel_rfl) (fun _ _ _ h => h) (Or.inr ⟨by kernel_rfl, rfl⟩) (by assumption) ?_
    try simp only [Act.put, List.getElem_toArray, List.getElem_cons_zero, List.getElem_cons_succ, List.setIfInBounds_toArray, List.set_cons_zero, List.set_cons_succ]
    refine wpAnyH_take (i := 18) (v := undef) rfl (by kernel_rfl) (by kernel_rfl) (by kernel_rfl) (fun _ _ _ h => h) (Or.inr ⟨by kernel_rfl, rfl⟩) (by assumption) ?_
    try simp only [Act.put, List.getElem_toArray, List.getElem_cons_zero, List.getElem_cons_succ, List.setIfInBounds_toArray, List.set_cons_zero, List.set_cons_succ]
    refine wpAnyH_take (i := 19) (v := undef) rfl (by kernel_rfl) (by kernel_rfl) (by kernel_rfl) (fun _ _ _ h => h) (Or.inr ⟨by kernel_rfl, rfl⟩) (by assumption) ?_
    try simp only [Act.put, List.getElem_toArray, List.getElem_cons_zero, List.getElem_cons_succ, List.setIfInBounds_toArray, List.set_cons_zero, List.set_cons_succ]
    refine wpAnyH_take (i := 20) (v := undef) rfl (by kernel_rfl) (by kernel_rfl) (by kernel_rfl) (fun _ _ _ h => h) (Or.inr ⟨by kernel_rfl, rfl⟩) (by assumption) ?_
    try simp only [Act.put, List.getElem_toArray, List.getElem_cons_zero, List.getElem_cons_succ, List.setIfInBounds_toArray, List.set_cons_zero, List.set_cons_succ]
    refine wpAnyH_take (i := 21) (v := undef) rfl (by kernel_rfl) (by kernel_rfl) (by kernel_rfl) (fun _ _ _ h => h) (Or.inr ⟨by kernel_rfl, rfl⟩) (by assumption) ?_
    try simp only [Act.put, List.getElem_toArray, List.getElem_cons_zero, List.getElem_cons_succ, List.setIfInBounds_toArray, List.set_cons_zero, List.set_cons_succ]
    refine wpAnyH_take (i := 22) (v := ?v22_42) rfl (by kernel_rfl) (by kernel_rfl) (by kernel_rfl) (fun _ _ _ h => h) (Or.inl ⟨by kernel_rfl, ?y22_42⟩) (by assumption) ?r22_42
    case y22_42 => (intro w hSw; (try dsimp only at hSw); go_simp; (try with_reducible rfl))
    try simp only [Act.put, List.getElem_toArray, List.getElem_cons_zero, List.getElem_cons_succ, List.setIfInBounds_toArray, List.set_cons_zero, List.set_cons_succ]
    refine wpAnyH_take (i := 23) (v := ?v23_43) rfl (by kernel_rfl) (by kernel_rfl) (by kernel_rfl) (fun _ _ _ h => h) (Or.inl ⟨by kernel_rfl, ?y23_43⟩) (by assumption) ?r23_43
    case y23_43 => (intro w hSw; (try dsimp only at hSw); go_simp; (try with_reducible rfl))
    try simp only [Act.put, List.getElem_toArray, List.getElem_cons_zero, List.getElem_cons_succ, List.setIfInBounds_toArray, List.set_cons_zero, List.set_cons_succ]
    refine wpAnyH_done (by kernel_rfl) ?_ _
    go_wp2
    go_ret
    exact HR.out
def RetQ (B W : Nat) (x : Wx) (L V R : Value) (P : Pv) (a : Int) (s : Sv) (w : World) (r : Ending) (w' : World) : Prop :=
  ((r = .returned (.bool true) ∧ stepV P (18, a) s = some s) ∨ (r = .returned (.bool false) ∧ stepV P (18, a) s = none)) ∧ Mt B tsP w w' ∧ WkAt B W x L V R w'
theorem ret_step {P : Pv} {a : Int} {s : Sv} : stepV P (18, a) s = if s.st = (if P.res = 0 then [] else [P.res]) then some s else none := by
  unfold stepV
  simp only [show ¬ ((18 : Int) = 1) by decide, show ¬ ((18 : Int) = 2) by decide, show ¬ ((18 : Int) = 3) by decide, show ¬ ((18 : Int) = 4) by decide, show ¬ ((18 : Int) = 5) by decide, show ¬ ((18 : Int) = 6) by decide, show ¬ ((18 : Int) = 7) by decide, show ¬ ((18 : Int) = 8) by decide, show ¬ ((18 : Int) = 9) by decide, show ¬ ((18 : Int) = 10) by decide, show ¬ ((18 : Int) = 11) by decide, show ¬ ((18 : Int) = 12) by decide, show ¬ ((18 : Int) = 13) by decide, show ¬ ((18 : Int) = 14) by decide, show ¬ ((18 : Int) = 15) by decide, show ¬ ((18 : Int) = 16) by decide, show ¬ ((18 : Int) = 17) by decide, if_false, if_true]
theorem ret_pop {s s' : Sv} {want : List Int} (h : popV s want = some s') : s'.st = [] ↔ s.st = want := by
  unfold popV at h
  split at h
  · rename_i hc
    injection h with h
    subst h
    constructor
    · intro e
      have hz : s.st.length - want.length = 0 := by
        have := congrArg List.length e
        simp at this
        omega
      have h2 := hc.2
      rw [hz, List.drop_zero] at h2
      exact h2
    · intro e
      show s.st.take (s.st.length - want.length) = []
      rw [e]
      simp
  · cases h
theorem pop_no {s : Sv} {want : List Int} (h : popV s want = none) : s.st ≠ want := by
  intro e
  unfold popV at h
  rw [if_pos] at h
  · cases h
  · rw [e]
    simp
set_option maxHeartbeats 1600000 in
theorem eff18 {B W St : Nat} {x : Wx} {S : List (List Int)} {L V R : Value} {s : Sv} {P : Pv} {cs : List Cd} {w : World} (a : Int) (h : EfP B W St x S L V R s P cs w) :
    Calls Tryd.prog 26 #[.pointer (some ⟨W, 0, none⟩), .pointer (some ⟨St, 0, none⟩), .agg #[.int .i64 18, .int .i64 a]] w (RetQ B W x L V R P a s w) := by
  have h0 := ef0 h 18 a
  obtain ⟨w1, hw1⟩ : ∃ w1, w.alloc (.cells #[.int .i64 18, .int .i64 a] 35) = w1 := ⟨_, rfl⟩
  rw [hw1] at h0
  have HW := Lib.hid hw1
  obtain ⟨b0, b1, _⟩ := h0.e.all
  have hr2 : OkN x.r := by rw [h0.p.hr]; exact h0.p.hr2
  have K1 : Hid (Calls Tryd.prog 45 #[.pointer (some ⟨W, 0, none⟩), .pointer (some ⟨St, 0, none⟩)] w1 fun r w' => (Mt B tsP w w' ∧ WkAt B W x L V R w') ∧ ((r = .returned (.bool true) ∧ ∃ n : Nat, w'.cell? ⟨St, 0, none⟩ = some (.int .i64 n) ∧ (n = 0 ↔ s.st = (if P.res = 0 then [] else [P.res]))) ∨ (r = .returned (.bool false) ∧ s.st ≠ (if P.res = 0 then [] else [P.res])))) := by
    refine (resultS h0.p.st hr2).mono ?_
    rintro r w' ⟨hg, hq⟩
    rw [h0.p.hr] at hq
    have hwk : WkAt B W x L V R w' := by
      obtain ⟨n, xs, h1, _⟩ := h0.p.st.st
      exact h0.p.st.wk.other hg h1 (by decide)
    refine ⟨⟨h0.mt.trans (mt_st h0.p.st hg), hwk⟩, ?_⟩
    rcases hq with ⟨rfl, s', e1, e2⟩ | ⟨rfl, e1⟩
    · obtain ⟨n, xs, h1, h2, _⟩ := e2.st
      refine .inl ⟨rfl, n, (st_cell h1).1, ?_⟩
      rw [← ret_pop e1]
      constructor
      · intro e
        subst e
        have := e2.ok.s0
        rw [h2] at this
        injection this
      · intro e
        rw [e] at h2
        exact e2.ok.once _ _ _ h2 e2.ok.s0
    · exact .inr ⟨rfl, pop_no e1⟩
  have HE : Hid (stepV P (18, a) s = if s.st = (if P.res = 0 then [] else [P.res]) then some s else none) := ret_step
  clear h h0 hw1 hr2
  generalize (if P.res = 0 then ([] : List Int) else [P.res]) = want at *
  go_enter Tryd.func26, Tryd.ntmps26
  go_upto_region 1 with fail
  rw [HW.out]
  go_wp2_with fail
  refine K1.out.mono ?_
  rintro r w2 ⟨hm, ⟨rfl, n, hc, hn⟩ | ⟨rfl, hn⟩⟩
  · have HM := Lib.hid hm
    by_cases h0 : n = 0
    · have HQ : Hid (stepV P (18, a) s = some s) := by
        show _ = _
        rw [HE.out, if_pos (hn.1 h0)]
      subst h0
      clear hm hn
      go_wp2
      go_ret
      exact ⟨.inl ⟨rfl, HQ.out⟩, HM.out⟩
    · have HQ : Hid (stepV P (18, a) s = none) := by
        show _ = _
        rw [HE.out, if_neg (fun e => h0 (hn.2 e))]
      have hbe : ((n : Int) == 0) = false := by simp [h0]
      clear hm hn h0
      go_wp2
      go_ret
      exact ⟨.inr ⟨rfl, HQ.out⟩, HM.out⟩
  · have HQ : Hid (stepV P (18, a) s = none) := by
      show _ = _
      rw [HE.out, if_neg hn]
    have HM := Lib.hid hm
    clear hm hn
    go_wp2
    go_ret
    exact ⟨.inr ⟨rfl, HQ.out⟩, HM.out⟩
/-- any instruction but a return -/
theorem effC {B W St : Nat} {x : Wx} {S : List (List Int)} {L V R : Value} {s : Sv} {P : Pv} {cs : List Cd} {w : World} (k a : Int) (h : EfP B W St x S L V R s P cs w) (hk : 1 ≤ k ∧ k ≤ 17) (ha1 : -9223372036854775808 ≤ a) (ha2 : a ≤ 9223372036854775807) :
    Calls Tryd.prog 26 #[.pointer (some ⟨W, 0, none⟩), .pointer (some ⟨St, 0, none⟩), .agg #[.int .i64 k, .int .i64 a]] w (EfQ B W St x S V R P k a s w) := by
  have : k = 1 ∨ k = 2 ∨ k = 3 ∨ k = 4 ∨ k = 5 ∨ k = 6 ∨ k = 7 ∨ k = 8 ∨ k = 9 ∨ k = 10 ∨ k = 11 ∨ k = 12 ∨ k = 13 ∨ k = 14 ∨ k = 15 ∨ k = 16 ∨ k = 17 := by omega
  rcases this with rfl | rfl | rfl | rfl | rfl | rfl | rfl | rfl | rfl | rfl | rfl | rfl | rfl | rfl | rfl | rfl | rfl
  · exact eff1 a h
  · exact eff2 a h
  · exact eff3 a h
  · exact eff4 a h
  · exact eff5 a h
  · exact eff6 a h
  · exact eff7 a ha1 ha2 h
  · exact eff8 a ha1 ha2 h
  · exact eff9 a h
  · exact eff10 a h
  · exact eff11 a h
  · exact eff12 a h
  · exact eff13 a h
  · exact eff14 a h
  · exact eff15 a h
  · exact eff16 a h
  · exact eff17 a h
end Go.Proofs.YtilmidjkjgeoeaaDoor
