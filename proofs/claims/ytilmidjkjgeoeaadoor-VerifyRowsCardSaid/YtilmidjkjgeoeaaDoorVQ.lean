/- What an instruction does, one by one: signs, calls, drops and returns. Conditions: those in each theorem. -/
import Derived.Test.YtilmidjkjgeoeaaDoorVO
namespace Go.Proofs.YtilmidjkjgeoeaaDoor
open Go.RowKit Go.MapKept
set_option maxRecDepth 100000
set_option linter.unusedVariables false
set_option linter.unusedSimpArgs false
theorem last_two {l : List Int} (h : 2 ≤ l.length) : l.dropLast.getLast?.getD 0 = l[l.length - 2]?.getD 0 ∧ l.getLast?.getD 0 = l[l.length - 1]?.getD 0 ∧ l.dropLast.dropLast = l.take (l.length - 2) := by
  refine ⟨?_, ?_, ?_⟩
  · rw [List.getLast?_eq_getElem?, List.length_dropLast, List.getElem?_dropLast, if_pos (by omega)]
    rfl
  · rw [List.getLast?_eq_getElem?]
  · rw [List.dropLast_eq_take, List.dropLast_eq_take, List.length_take, List.take_take]
    congr 1
    omega
theorem made_zero (n b : Int) : madeV n 0 b = 0 := by
  unfold madeV
  repeat' split
  all_goals omega
theorem two_step {P : Pv} {a : Int} {s : Sv} : stepV P (7, a) s = if madeV a (s.st.dropLast.getLast?.getD 0) (s.st.getLast?.getD 0) = 0 then none else some (pushV ⟨s.st.dropLast.dropLast, s.sl⟩ (madeV a (s.st.dropLast.getLast?.getD 0) (s.st.getLast?.getD 0))) := by
  unfold stepV
  simp only [show ¬ ((7 : Int) = 1) by decide, show ¬ ((7 : Int) = 2) by decide, show ¬ ((7 : Int) = 3) by decide, show ¬ ((7 : Int) = 4) by decide, show ¬ ((7 : Int) = 5) by decide, show ¬ ((7 : Int) = 6) by decide, if_false, if_true]
  by_cases h : 2 ≤ s.st.length
  · obtain ⟨h1, h2, h3⟩ := last_two h
    rw [h1, h2, h3]
    by_cases h0 : madeV a (s.st[s.st.length - 2]?.getD 0) (s.st[s.st.length - 1]?.getD 0) = 0
    · rw [if_neg (fun q => q.2 h0), if_pos h0]
    · rw [if_pos ⟨h, h0⟩, if_neg h0]
      rfl
  · rw [if_neg (fun q => h q.1)]
    have h1 : s.st.dropLast = [] := List.eq_nil_of_length_eq_zero (by rw [List.length_dropLast]; omega)
    rw [h1, show ([] : List Int).getLast?.getD 0 = 0 from rfl, if_pos (made_zero a _)]
set_option maxHeartbeats 1600000 in
theorem eff7 {B W St : Nat} {x : Wx} {S : List (List Int)} {L V R : Value} {s : Sv} {P : Pv} {cs : List Cd} {w : World} (a : Int) (ha1 : -9223372036854775808 ≤ a) (ha2 : a ≤ 9223372036854775807) (h : EfP B W St x S L V R s P cs w) :
    Calls Tryd.prog 26 #[.pointer (some ⟨W, 0, none⟩), .pointer (some ⟨St, 0, none⟩), .agg #[.int .i64 7, .int .i64 a]] w (EfQ B W St x S V R P 7 a s w) := by
  have h0 := ef0 h 7 a
  obtain ⟨w1, hw1⟩ : ∃ w1, w.alloc (.cells #[.int .i64 7, .int .i64 a] 35) = w1 := ⟨_, rfl⟩
  rw [hw1] at h0
  have HW := Lib.hid hw1
  obtain ⟨b0, b1, _⟩ := h0.e.all
  have H0 := Lib.hid h0
  have K1 : Hid (Calls Tryd.prog 38 #[.pointer (some ⟨W, 0, none⟩), .pointer (some ⟨St, 0, none⟩)] w1.drew fun r w' => r = .returned (.int .i64 (s.st.getLast?.getD 0)) ∧ Ef0 B W St x S L V R ⟨s.st.dropLast, s.sl⟩ P cs 7 a w w' ∧ Mt B tsP w w') := by
    refine (popS h0.drew.p.st).mono ?_
    rintro r w' ⟨rfl, k1, k2⟩
    exact ⟨rfl, h0.drew.grow k1 k2, h0.drew.mt.trans (mt_st h0.drew.p.st k2)⟩
  have K2 : Hid (∀ wb, Ef0 B W St x S L V R ⟨s.st.dropLast, s.sl⟩ P cs 7 a w wb → Calls Tryd.prog 38 #[.pointer (some ⟨W, 0, none⟩), .pointer (some ⟨St, 0, none⟩)] wb fun r w' => r = .returned (.int .i64 (s.st.dropLast.getLast?.getD 0)) ∧ Ef0 B W St x S L V R ⟨s.st.dropLast.dropLast, s.sl⟩ P cs 7 a w w' ∧ Mt B tsP wb w') := fun wb hb => by
    refine (popS hb.p.st).mono ?_
    rintro r w' ⟨rfl, k1, k2⟩
    exact ⟨rfl, hb.grow k1 k2, mt_st hb.p.st k2⟩
  have T1 : OkN (s.st.getLast?.getD 0) := h0.p.st.top
  have T2 : OkN (s.st.dropLast.getLast?.getD 0) := by
    obtain ⟨n, xs, _, h2, _⟩ := h0.p.st.st
    obtain ⟨e, _, _, _, g3⟩ := h0.p.st.ok.at h2
    exact top_ok h0.p.st.ok g3
  have HE : Hid (stepV P (7, a) s = if madeV a (s.st.dropLast.getLast?.getD 0) (s.st.getLast?.getD 0) = 0 then none else some (pushV ⟨s.st.dropLast.dropLast, s.sl⟩ (madeV a (s.st.dropLast.getLast?.getD 0) (s.st.getLast?.getD 0)))) := two_step
  have K3 := Lib.hid (fun (wb : World) => madeC a (s.st.dropLast.getLast?.getD 0) (s.st.getLast?.getD 0) wb T2 T1)
  have K4 := Lib.hid (fun (wb : World) (hb : Ef0 B W St x S L V R ⟨s.st.dropLast.dropLast, s.sl⟩ P cs 7 a w wb) => hb.push (madeV a (s.st.dropLast.getLast?.getD 0) (s.st.getLast?.getD 0)) (made_ok _ _ _))
  have K5 := Lib.hid (fun (wb : World) (hb : Tab wb) => sign a wb ha1 ha2 hb)
  clear h h0 hw1 T1 T2 ha1 ha2
  unfold EfQ
  rw [HE.out]
  clear HE
  generalize (if madeV a (s.st.dropLast.getLast?.getD 0) (s.st.getLast?.getD 0) = 0 then (none : Option Sv) else some (pushV ⟨s.st.dropLast.dropLast, s.sl⟩ (madeV a (s.st.dropLast.getLast?.getD 0) (s.st.getLast?.getD 0)))) = o at *
  unfold MadeOf at K3
  generalize madeV a (s.st.dropLast.getLast?.getD 0) (s.st.getLast?.getD 0) = m at *
  generalize s.st.dropLast.getLast?.getD 0 = t1 at *
  generalize s.st.getLast?.getD 0 = t2 at *
  generalize strOfNums (signM a) = sg at *
  go_enter Tryd.func26, Tryd.ntmps26
  go_upto_region 1 with fail
  rw [HW.out]
  go_upto_region 15 with fail
  go_region_held3 (fun w' => True)
    (exact trivial)
    (first | (have h9 := KF.out; go_at_call 38; refine KF.out.mono ?_; rintro r w3 ⟨rfl, g1, g2⟩; have KE2 := Lib.hid (And.intro g1 (KE.out.2.trans g2)); clear g1 g2) | (go_at_call 38; refine K1.out.mono ?_; rintro r w2 ⟨rfl, g1, g2⟩; have KF := Lib.hid (K2.out _ g1); have KE := Lib.hid (And.intro g1 g2); clear g1 g2))
  have HS := Lib.hid KE2.out.1.drew.e
  have K7 := Lib.hid (K5.out w3.drew KE2.out.1.drew.p.tab)
  have K8 := Lib.hid (K3.out w3.drew)
  have K9 := Lib.hid (K4.out w3.drew KE2.out.1.drew)
  go_upto_region 16 with fail
  refine wp_region_held_drew (S := fun w' => EfS W w.heap.size 7 a x w') (by kernel_rfl) HS.out (fun hHeld => ?_)
  refine wpAnyH_take (i := 0) (v := ?v0_4) rfl (by kernel_rfl) (by kernel_rfl) (by kernel_rfl) (fun _ _ _ h => h) (Or.inl ⟨by kernel_rfl, ?y0_4⟩) (by assumption) ?r0_4
  case y0_4 => (intro w hSw; (try dsimp only at hSw); go_simp; (try with_reducible rfl))
  try simp only [Act.put, List.getElem_toArray, List.getElem_cons_zero, List.getElem_cons_succ, List.setIfInBounds_toArray, List.set_cons_zero, List.set_cons_succ]
  refine wpAnyH_take (i := 1) (v := ?v1_5) rfl (by kernel_rfl) (by kernel_rfl) (by kernel_rfl) (fun _ _ _ h => h) (Or.inl ⟨by kernel_rfl, ?y1_5⟩) (by assumption) ?r1_5
  case y1_5 => (intro w hSw; (try dsimp only at hSw); go_simp; (try with_reducible rfl))
  try simp only [Act.put, List.getElem_toArray, List.getElem_cons_zero, List.getElem_cons_succ, List.setIfInBounds_toArray, List.set_cons_zero, List.set_cons_succ]
  refine wpAnyH_take (i := 2) (v := ?v2_6) rfl (by kernel_rfl) (by kernel_rfl) (by kernel_rfl) (fun _ _ _ h => h) (Or.inl ⟨by kernel_rfl, ?y2_6⟩) (by assumption) ?r2_6
  case y2_6 => (intro w hSw; (try dsimp only at hSw); go_simp; (try with_reducible rfl))
  try simp only [Act.put, List.getElem_toArray, List.getElem_cons_zero, List.getElem_cons_succ, List.setIfInBounds_toArray, List.set_cons_zero, List.set_cons_succ]
  refine wpAnyH_take (i := 3) (v := ?v3_7) rfl (by kernel_rfl) (by kernel_rfl) (by kernel_rfl) (fun _ _ _ h => h) (Or.inl ⟨by kernel_rfl, ?y3_7⟩) (by assumption) ?r3_7
  case y3_7 => (intro w hSw; (try dsimp only at hSw); go_simp; (try with_reducible rfl))
  try simp only [Act.put, List.getElem_toArray, List.getElem_cons_zero, List.getElem_cons_succ, List.setIfInBounds_toArray, List.set_cons_zero, List.set_cons_succ]
  refine wpAnyH_take (i := 4) (v := ?v4_8) rfl (by kernel_rfl) (by kernel_rfl) (by kernel_rfl) (fun _ _ _ h => h) (Or.inl ⟨by kernel_rfl, ?y4_8⟩) (by assumption) ?r4_8
  case y4_8 => (intro w hSw; (try dsimp only at hSw); go_simp; (try with_reducible rfl))
  try simp only [Act.put, List.getElem_toArray, List.getElem_cons_zero, List.getElem_cons_succ, List.setIfInBounds_toArray, List.set_cons_zero, List.set_cons_succ]
  refine wpAnyH_take (i := 5) (v := ?v5_9) rfl (by kernel_rfl) (by kernel_rfl) (by kernel_rfl) (fun _ _ _ h => h) (Or.inl ⟨by kernel_rfl, ?y5_9⟩) (by assumption) ?r5_9
  case y5_9 => (intro w hSw; (try dsimp only at hSw); go_simp; (try with_reducible rfl))
  try simp only [Act.put, List.getElem_toArray, List.getElem_cons_zero, List.getElem_cons_succ, List.setIfInBounds_toArray, List.set_cons_zero, List.set_cons_succ]
  refine wpAnyH_take (i := 6) (v := ?v6_1) rfl (by kernel_rfl) (by kernel_rfl) (by kernel_rfl) (fun _ _ _ h => h) (Or.inl ⟨by kernel_rfl, ?y6_1⟩) (by assumption) ?r6_1
  case y6_1 => (intro w hSw; (try dsimp only at hSw); go_simp; (try with_reducible rfl))
  try simp only [Act.put, List.getElem_toArray, List.getElem_cons_zero, List.getElem_cons_succ, List.setIfInBounds_toArray, List.set_cons_zero, List.set_cons_succ]
  refine wpAnyH_take (i := 7) (v := ?v7_2) rfl (by kernel_rfl) (by kernel_rfl) (by kernel_rfl) (fun _ _ _ h => h) (Or.inl ⟨by kernel_rfl, ?y7_2⟩) (by assumption) ?r7_2
  case y7_2 => (intro w hSw; obtain ⟨q0, q1, q2, q3, q7⟩ := hSw.all; (try dsimp only at hSw); go_simp; (try with_reducible rfl))
  try simp only [Act.put, List.getElem_toArray, List.getElem_cons_zero, List.getElem_cons_succ, List.setIfInBounds_toArray, List.set_cons_zero, List.set_cons_succ]
  refine wpAnyH_take (i := 9) (v := ?v9_10) rfl (by kernel_rfl) (by kernel_rfl) (by kernel_rfl) (fun _ _ _ h => h) (Or.inl ⟨by kernel_rfl, ?y9_10⟩) (by assumption) ?r9_10
  case y9_10 => (intro w hSw; (try dsimp only at hSw); go_simp; (try with_reducible rfl))
  try simp only [Act.put, List.getElem_toArray, List.getElem_cons_zero, List.getElem_cons_succ, List.setIfInBounds_toArray, List.set_cons_zero, List.set_cons_succ]
  refine wpAnyH_take (i := 10) (v := ?v10_11) rfl (by kernel_rfl) (by kernel_rfl) (by kernel_rfl) (fun _ _ _ h => h) (Or.inl ⟨by kernel_rfl, ?y10_11⟩) (by assumption) ?r10_11
  case y10_11 => (intro w hSw; (try dsimp only at hSw); go_simp; (try with_reducible rfl))
  try simp only [Act.put, List.getElem_toArray, List.getElem_cons_zero, List.getElem_cons_succ, List.setIfInBounds_toArray, List.set_cons_zero, List.set_cons_succ]
  refine wpAnyH_ready (rs := [8]) (by kernel_rfl) (by simp) ?_
  refine AllReadyH.cons rfl (fun K hK => ?_) AllReadyH.nil
  go_simp
  refine K7.out.mono ?_
  rintro r w4 ⟨rfl, rfl⟩
  refine hK.out _ _ HS.out (fun hHeld => ?_)
  clear hK K
  refine wpAnyH_ready (rs := [11]) (by kernel_rfl) (by simp) ?_
  refine AllReadyH.cons rfl (fun K hK => ?_) AllReadyH.nil
  go_simp
  refine K8.out.mono ?_
  rintro r w4 ⟨rfl, rfl⟩
  refine hK.out _ _ HS.out (fun hHeld => ?_)
  clear hK K
  refine wpAnyH_ready (rs := [12]) (by kernel_rfl) (by simp) ?_
  refine AllReadyH.cons rfl (fun K hK => ?_) AllReadyH.nil
  go_simp
  refine K9.out.mono ?_
  rintro r w4 ⟨g1, ⟨b, rfl⟩, g2⟩
  have KG := Lib.hid g2
  clear g2
  refine hK.out _ _ g1 (fun hHeld => ?_)
  clear hK K
  refine wpAnyH_take (i := 13) (v := ?v13_3) rfl (by kernel_rfl) (by kernel_rfl) (by kernel_rfl) (fun _ _ _ h => h) (Or.inl ⟨by kernel_rfl, ?y13_3⟩) (by assumption) ?r13_3
  case y13_3 => (intro w hSw; (try dsimp only at hSw); go_simp; (try with_reducible rfl))
  try simp only [Act.put, List.getElem_toArray, List.getElem_cons_zero, List.getElem_cons_succ, List.setIfInBounds_toArray, List.set_cons_zero, List.set_cons_succ]
  refine wpAnyH_done (by kernel_rfl) ?_ _
  go_wp2
  go_ret
  exact KG.out
theorem one_step {P : Pv} {a : Int} {s : Sv} : stepV P (8, a) s = if opdV a = 0 then none else (popV s [opdV a]).map (pushV · (opdV a)) := by
  unfold stepV opdV
  simp only [show ¬ ((8 : Int) = 1) by decide, show ¬ ((8 : Int) = 2) by decide, show ¬ ((8 : Int) = 3) by decide, show ¬ ((8 : Int) = 4) by decide, show ¬ ((8 : Int) = 5) by decide, show ¬ ((8 : Int) = 6) by decide, show ¬ ((8 : Int) = 7) by decide, if_false, if_true]
  by_cases h2 : a = 2
  · rw [if_pos h2, if_pos h2, if_neg (by decide)]
  · rw [if_neg h2, if_neg h2]
    by_cases h3 : a = 12
    · rw [if_pos h3, if_pos h3, if_neg (by decide)]
    · rw [if_neg h3, if_neg h3, if_pos rfl]
set_option maxHeartbeats 1600000 in
theorem eff8 {B W St : Nat} {x : Wx} {S : List (List Int)} {L V R : Value} {s : Sv} {P : Pv} {cs : List Cd} {w : World} (a : Int) (ha1 : -9223372036854775808 ≤ a) (ha2 : a ≤ 9223372036854775807) (h : EfP B W St x S L V R s P cs w) :
    Calls Tryd.prog 26 #[.pointer (some ⟨W, 0, none⟩), .pointer (some ⟨St, 0, none⟩), .agg #[.int .i64 8, .int .i64 a]] w (EfQ B W St x S V R P 8 a s w) := by
  have h0 := ef0 h 8 a
  obtain ⟨w1, hw1⟩ : ∃ w1, w.alloc (.cells #[.int .i64 8, .int .i64 a] 35) = w1 := ⟨_, rfl⟩
  rw [hw1] at h0
  have HW := Lib.hid hw1
  obtain ⟨b0, b1, _⟩ := h0.e.all
  have K5 := Lib.hid (sign a w1 ha1 ha2 h0.p.tab)
  have K6 := Lib.hid (operandC a w1)
  have HE : Hid (stepV P (8, a) s = if opdV a = 0 then none else (popV s [opdV a]).map (pushV · (opdV a))) := one_step
  have HO : opdV a = 0 ∨ okTy (opdV a) := by
    unfold opdV okTy
    split
    · omega
    · split <;> omega
  have H0 := Lib.hid h0
  clear h h0 hw1 ha1 ha2
  unfold EfQ
  rw [HE.out]
  clear HE
  generalize opdV a = u at *
  generalize strOfNums (signM a) = sg at *
  by_cases hu : u = 0
  · rw [if_pos hu]
    subst hu
    have HR : Hid (EffQ B W St x S V R none w (.returned (.bool false)) w1) := eff_none H0.out.mt
    go_enter Tryd.func26, Tryd.ntmps26
    go_upto_region 1 with fail
    rw [HW.out]
    go_wp2_with fail
    refine K5.out.mono ?_
    rintro r w2 ⟨rfl, rfl⟩
    go_wp2_with fail
    refine K6.out.mono ?_
    rintro r w2 ⟨rfl, rfl⟩
    go_wp2
    go_ret
    exact HR.out
  · rw [if_neg hu]
    have hok : okTy u := HO.elim (fun e => absurd e hu) id
    have K7 := Lib.hid (H0.out.repl u u hok hok)
    have hbe : (u != 0) = true := by simp [hu]
    clear HO hok
    go_enter Tryd.func26, Tryd.ntmps26
    go_upto_region 1 with fail
    rw [HW.out]
    go_wp2_with fail
    refine K5.out.mono ?_
    rintro r w2 ⟨rfl, rfl⟩
    go_wp2_with fail
    refine K6.out.mono ?_
    rintro r w2 ⟨rfl, rfl⟩
    go_wp2_with fail
    refine K7.out.mono ?_
    rintro r w2 ⟨⟨b, rfl⟩, g2⟩
    have KG := Lib.hid g2
    clear g2
    go_wp2
    go_ret
    exact KG.out
set_option maxHeartbeats 1600000 in
theorem eff17 {B W St : Nat} {x : Wx} {S : List (List Int)} {L V R : Value} {s : Sv} {P : Pv} {cs : List Cd} {w : World} (a : Int) (h : EfP B W St x S L V R s P cs w) :
    Calls Tryd.prog 26 #[.pointer (some ⟨W, 0, none⟩), .pointer (some ⟨St, 0, none⟩), .agg #[.int .i64 17, .int .i64 a]] w (EfQ B W St x S V R P 17 a s w) := by
  have h0 := ef0 h 17 a
  obtain ⟨w1, hw1⟩ : ∃ w1, w.alloc (.cells #[.int .i64 17, .int .i64 a] 35) = w1 := ⟨_, rfl⟩
  rw [hw1] at h0
  have HW := Lib.hid hw1
  obtain ⟨b0, b1, _⟩ := h0.e.all
  have K1 : Hid (Calls Tryd.prog 38 #[.pointer (some ⟨W, 0, none⟩), .pointer (some ⟨St, 0, none⟩)] w1.drew fun r w' => r = .returned (.int .i64 (s.st.getLast?.getD 0)) ∧ StS B W St x S L V R ⟨s.st.dropLast, s.sl⟩ w' ∧ Mt B tsP w w') := by
    refine (popS h0.drew.p.st).mono ?_
    rintro r w' ⟨rfl, k1, k2⟩
    exact ⟨rfl, k1, h0.drew.mt.trans (mt_st h0.drew.p.st k2)⟩
  have htop : s.st = [] ↔ s.st.getLast?.getD 0 = 0 := by
    constructor
    · intro e; rw [e]; rfl
    · intro e
      cases hl : s.st.getLast? with
      | none => exact List.getLast?_eq_none_iff.1 hl
      | some t =>
        rw [hl] at e
        obtain ⟨n, xs, _, h2, _⟩ := h0.p.st.st
        have := h0.p.st.ok.ty _ (List.mem_of_getElem? h2) t (List.mem_of_getLast? hl)
        have e' : t = 0 := e
        have := this.1
        omega
  have HE : Hid (stepV P (17, a) s = if s.st.getLast?.getD 0 = 0 then none else some ⟨s.st.dropLast, s.sl⟩) := by
    show _ = _
    unfold stepV
    simp only [show ¬ ((17 : Int) = 1) by decide, show ¬ ((17 : Int) = 2) by decide, show ¬ ((17 : Int) = 3) by decide, show ¬ ((17 : Int) = 4) by decide, show ¬ ((17 : Int) = 5) by decide, show ¬ ((17 : Int) = 6) by decide, show ¬ ((17 : Int) = 7) by decide, show ¬ ((17 : Int) = 8) by decide, show ¬ ((17 : Int) = 9) by decide, show ¬ ((17 : Int) = 10) by decide, show ¬ ((17 : Int) = 11) by decide, show ¬ ((17 : Int) = 12) by decide, show ¬ ((17 : Int) = 13) by decide, show ¬ ((17 : Int) = 14) by decide, show ¬ ((17 : Int) = 15) by decide, show ¬ ((17 : Int) = 16) by decide, if_false, if_true]
    by_cases hst : s.st = []
    · rw [if_neg (fun q => q hst), if_pos (htop.1 hst)]
    · rw [if_pos hst, if_neg (fun q => hst (htop.2 q))]
  clear h h0 hw1 htop
  unfold EfQ
  rw [HE.out]
  clear HE
  generalize s.st.getLast?.getD 0 = t at *
  by_cases ht : t = 0
  · rw [if_pos ht]
    subst ht
    go_enter Tryd.func26, Tryd.ntmps26
    go_upto_region 1 with fail
    rw [HW.out]
    go_upto_region 35 with fail
    go_region_held3 (fun w' => True)
      (exact trivial)
      (first | (go_at_call 38; refine K1.out.mono ?_; rintro r w2 ⟨rfl, g1, g2⟩; have KG := Lib.hid (And.intro g1 g2); clear g1 g2))
    go_wp2
    go_ret
    exact eff_none KG.out.2
  · rw [if_neg ht]
    have hbe : (t != 0) = true := by simp [ht]
    go_enter Tryd.func26, Tryd.ntmps26
    go_upto_region 1 with fail
    rw [HW.out]
    go_upto_region 35 with fail
    go_region_held3 (fun w' => True)
      (exact trivial)
      (first | (go_at_call 38; refine K1.out.mono ?_; rintro r w2 ⟨rfl, g1, g2⟩; have KG := Lib.hid (And.intro g1 g2); clear g1 g2))
    try rw [hbe]
    go_wp2
    go_ret
    exact eff_same KG.out.1 KG.out.2
end Go.Proofs.YtilmidjkjgeoeaaDoor
