/- A state reaches a place: the walk. Conditions: those in each theorem. -/
import Derived.Test.YtilmidjkjgeoeaaDoorVS
namespace Go.Proofs.YtilmidjkjgeoeaaDoor
open Go.RowKit Go.MapKept
set_option maxRecDepth 100000
set_option linter.unusedVariables false
set_option linter.unusedSimpArgs false
theorem info67s : (Tryd.prog.info? 67).map (·.size) = some 9 := by kernel_rfl
theorem stC_one (n : Nat) (xs : List Nat) : ∀ u ∈ stC n xs, u.oneCell' = true := by
  intro u hu
  unfold stC at hu
  rcases List.mem_cons.1 hu with h | h
  · rw [h]; rfl
  · obtain ⟨x, _, rfl⟩ := List.mem_map.1 h
    rfl
theorem stC_len (n : Nat) (xs : List Nat) : (stC n xs).length = xs.length + 1 := by simp [stC]
theorem putAt_cons {α : Type} {A : List α} {o : Nat} {c : α} {cs : List α} (hl : o + (cs.length + 1) ≤ A.length) : putAt (A.set o c) (o + 1) cs = putAt A o (c :: cs) := by
  have hlA : o < A.length := by omega
  apply List.ext_getElem?
  intro j
  rw [putAt_get (by simp; omega), putAt_get (by simpa using hl)]
  simp only [List.length_cons]
  by_cases j1 : j < o
  · rw [if_pos (by omega), if_pos j1, List.getElem?_set_ne (by omega)]
  · by_cases j2 : j = o
    · subst j2
      rw [if_pos (by omega), if_neg j1, if_pos (by omega), List.getElem?_set_self hlA]
      simp
    · rw [if_neg (by omega), if_neg j1]
      by_cases j3 : j < o + 1 + cs.length
      · rw [if_pos j3, if_pos (by omega), show j - o = (j - (o + 1)) + 1 by omega, List.getElem?_cons_succ]
      · rw [if_neg j3, if_neg (by omega), List.getElem?_set_ne (by omega)]
theorem putAt_two {α : Type} {A : List α} {o : Nat} {b c : α} {cs : List α} (h0 : A[o]? = some b) (h1 : A[o + 1]? = some c) (hl : o + (cs.length + 2) ≤ A.length) : putAt A (o + 1 + 1) cs = putAt A o (b :: c :: cs) := by
  apply List.ext_getElem?
  intro j
  rw [putAt_get (by omega), putAt_get (by simpa using hl)]
  simp only [List.length_cons]
  by_cases j1 : j < o
  · rw [if_pos (by omega), if_pos j1]
  · by_cases j2 : j = o
    · subst j2
      rw [if_pos (by omega), if_neg j1, if_pos (by omega), h0]
      simp
    · by_cases j4 : j = o + 1
      · subst j4
        rw [if_pos (by omega), if_neg j1, if_pos (by omega), h1, show o + 1 - o = 1 by omega]
        rfl
      · rw [if_neg (by omega), if_neg j1]
        by_cases j3 : j < o + 1 + 1 + cs.length
        · rw [if_pos j3, if_pos (by omega), show j - o = (j - (o + 1 + 1)) + 1 + 1 by omega, List.getElem?_cons_succ, List.getElem?_cons_succ]
        · rw [if_neg j3, if_neg (by omega)]
set_option maxHeartbeats 3200000 in
theorem reachC {B W : Nat} {x : Wx} {L V R : Value} (a : Int) (n : Nat) (ys : List Nat) (w : World) (h : WkAt B W x L V R w) (hy : Ws8 ys) (hp8 : ∀ p ∈ x.pl, Ws8 p.2.2) :
    Calls Tryd.prog 27 #[.pointer (some ⟨W, 0, none⟩), .int .i64 a, .agg (stC n ys).toArray] w (ReachQ B W x L V R (reachM x.pl a n ys) w) := by
  have hb := below_alloc w (.cells (stC n ys).toArray 67)
  have hA := heap_alloc_new w (.cells (stC n ys).toArray 67)
  obtain ⟨w1, hw1⟩ : ∃ w1, w.alloc (.cells (stC n ys).toArray 67) = w1 := ⟨_, rfl⟩
  have h1 := h.below hb
  rw [hw1] at hb hA h1
  have HW := Lib.hid hw1
  have HM : Hid (Mt B ts71 w w1) := .of hb h.lt.2
  have H1 := Lib.hid h1
  obtain ⟨AV, cV, rfl, hv1, hv2⟩ := own_slice h.pl
  have c9 := (wk_cells h1.cell).2.2.2.2.2.2.2.2.1
  unfold maxLen at hv2
  by_cases ha : 0 ≤ a ∧ a < (x.pl.length : Int)
  · obtain ⟨k, rfl⟩ : ∃ k : Nat, a = k := ⟨a.toNat, by omega⟩
    have hkl : k < x.pl.length := by omega
    obtain ⟨p, hpk⟩ : ∃ p, x.pl[k]? = some p := ⟨x.pl[k], List.getElem?_eq_getElem hkl⟩
    obtain ⟨pb, pn, px⟩ := p
    have hpx := hp8 _ (List.mem_of_getElem? hpk)
    have h8 : ∀ p ∈ x.pl, p.2.2.length = 8 := fun p hp => (hp8 p hp).1
    obtain ⟨g, c, cur, e, q1, q2, q3, q4, q5, q6⟩ := own_pos h1.pl (by omega)
    injection e with e1 e2 e3
    subst e1 e3
    have K0 := Lib.hid (withinY (k : Int) x.pl.length w1 ha)
    have hme : reachM x.pl (k : Int) n ys = if pb = false then (x.pl.set k (true, n, ys), true, true) else if pn ≠ n then (x.pl, false, false) else if List.zipWith dgC px ys = px then (x.pl, false, true) else (x.pl.set k (true, n, List.zipWith dgC px ys), true, true) := by
      unfold reachM
      rw [if_pos ha, Int.toNat_natCast, hpk]
    have c0 : w1.cell? ⟨g, k * 10, none⟩ = some (.bool pb) := cell_at q4 (q6 _ _ (show _ = some (Value.bool pb) from pl_flat h8 hpk (j := 0) rfl))
    have c1 : w1.cell? ⟨g, k * 10 + 1, none⟩ = some (.int .i64 pn) := cell_at q4 (q6 _ _ (pl_flat h8 hpk (j := 1) rfl))
    have d0 : w1.cell? ⟨w.heap.size, 0, none⟩ = some (.int .i64 n) := cell_at hA (j := 0) rfl
    have hgf : ∀ j, w1.frozen? ⟨g, j, none⟩ = false := fun j => by simp [World.frozen?, q4]
    have hjI : (k : Int) < (x.pl.length : Int) := by omega
    -- what an element changed leaves
    have HP : Hid (∀ (w2 w3 : World) (q : Pl), Below w1.heap.size w1 w2 → One g w2 w3 → w3.heap[g]? = some (.cells (putAt cur.toList (k * 10) (plC q)).toArray 71 (0, 0)) → q.2.2.length = 8 → WkAt B W { x with pl := x.pl.set k q } L (.slice (some ⟨g, 0, none⟩) x.pl.length cV) R w3 ∧ Mt B ts71 w w3) := by
      intro w2 w3 q hb2 ho hq hq8
      have hw2 := h1.below hb2
      have hl' := pl_set h8 hpk hq8
      have hcl : cur.toList.length = cV * 10 := by simpa using q5
      have hpql : (plC q).length = 10 := by simp [plC, wsV, hq8]
      obtain ⟨g1, g2⟩ := hw2.placed (A := cur.toList) (l' := x.pl.set k q) rfl q3 (by rw [hb2.block _ (lt_someV q4)]; exact q4) ⟨q1, q2⟩ ho hq (by rw [putAt_len (by rw [hpql, hcl]; omega)]; exact hcl) (by
        rw [hl']
        have hfl := pl_len h8
        have htk : cur.toList.take (x.pl.length * 10) = x.pl.flatMap plC := by
          apply List.ext_getElem?
          intro j
          by_cases hj : j < x.pl.length * 10
          · rw [List.getElem?_take_of_lt hj]
            obtain ⟨u, hu⟩ : ∃ u, (x.pl.flatMap plC)[j]? = some u := ⟨_, List.getElem?_eq_getElem (by omega)⟩
            rw [hu]
            simpa using q6 j u hu
          · rw [List.getElem?_eq_none (by simp; omega), List.getElem?_eq_none (by omega)]
        rw [← htk]
        apply List.ext_getElem?
        intro j
        rw [putAt_get (by rw [hpql]; simp; omega)]
        by_cases hj : j < x.pl.length * 10
        · rw [List.getElem?_take_of_lt hj, putAt_get (by rw [hpql, hcl]; omega), List.getElem?_take_of_lt hj]
        · rw [List.getElem?_eq_none (by simp; omega), if_neg (by omega), if_neg (by rw [hpql]; omega), List.getElem?_eq_none (by simp; omega)]) (by simp) (by
        rw [pl_len (fun p hp => (List.mem_or_eq_of_mem_set hp).elim (h8 p) (fun e => by rw [e]; exact hq8))])
      exact ⟨g1, (HM.out.trans (.of hb2 h1.lt.2)).trans g2⟩
    have HQ := Lib.hid (And.intro q3 (And.intro q4 (And.intro q5 (And.intro hA (And.intro hb hpk)))))
    have HPC := Lib.hid q6
    have HP8 := Lib.hid h8
    have lg : g < w1.heap.size := lt_someV q4
    have lW : W < w1.heap.size := h1.lt.1
    have lb : w.heap.size < w1.heap.size := lt_someV hA
    have hcw : k * 10 + 10 ≤ cur.toList.length := by
      have : cur.toList.length = cV * 10 := by simpa using q5
      omega
    clear h hb h1 hw1 q3 q4 q5 q6 hp8 hA
    cases pb with
    | false =>
      rw [if_pos rfl] at hme
      rw [hme]
      clear hme
      have HS : Hid (w1.drew.heap[w.heap.size]? = some (.cells (stC n ys).toArray 67 (0, 0))) := HQ.out.2.2.2.1
      have hs9 : (stC n ys).length = 9 := by rw [stC_len, hy.1]
      go_enter Tryd.func27, Tryd.ntmps27
      go_upto_region 1 with fail
      rw [HW.out]
      go_wp2_with fail
      refine K0.out.mono ?_
      rintro r w2 ⟨rfl, rfl⟩
      go_upto_region 5 with fail
      refine wp_region_held_drew (S := fun w' => w'.heap[w.heap.size]? = some (.cells (stC n ys).toArray 67 (0, 0))) (by kernel_rfl) HS.out (fun hHeld => ?_)
      refine wpAnyH_take (i := 0) (v := ?v0_4) rfl (by kernel_rfl) (by kernel_rfl) (by kernel_rfl) (fun _ _ _ h => h) (Or.inl ⟨by kernel_rfl, ?y0_4⟩) (by assumption) ?r0_4
      case y0_4 => (intro w hSw; (try dsimp only at hSw); go_simp; (try with_reducible rfl))
      try simp only [Act.put, List.getElem_toArray, List.getElem_cons_zero, List.getElem_cons_succ, List.setIfInBounds_toArray, List.set_cons_zero, List.set_cons_succ]
      refine wpAnyH_take (i := 1) (v := ?v1_5) rfl (by kernel_rfl) (by kernel_rfl) (by kernel_rfl) (fun _ _ _ h => h) (Or.inl ⟨by kernel_rfl, ?y1_5⟩) (by assumption) ?r1_5
      case y1_5 => (intro w hSw; (try dsimp only at hSw); go_simp; (try with_reducible rfl))
      try simp only [Act.put, List.getElem_toArray, List.getElem_cons_zero, List.getElem_cons_succ, List.setIfInBounds_toArray, List.set_cons_zero, List.set_cons_succ]
      refine wpAnyH_take (i := 2) (v := .agg (stC n ys).toArray) rfl (by kernel_rfl) (by kernel_rfl) (by kernel_rfl) (fun _ _ _ h => h) (yieldsIf_load_mid (by kernel_rfl) 67 (.tmp 5) rfl w.heap.size 0 rfl (stC n ys) _ (fun w hw => rangeV_of hw) Tryd.underlying67 rfl (by rw [hs9]; exact info67s)) (by assumption) ?_
      try simp only [Act.put, List.getElem_toArray, List.getElem_cons_zero, List.getElem_cons_succ, List.setIfInBounds_toArray, List.set_cons_zero, List.set_cons_succ]
      refine wpAnyH_take (i := 3) (v := ?v3_6) rfl (by kernel_rfl) (by kernel_rfl) (by kernel_rfl) (fun _ _ _ h => h) (Or.inl ⟨by kernel_rfl, ?y3_6⟩) (by assumption) ?r3_6
      case y3_6 => (intro w hSw; (try dsimp only at hSw); go_simp; (try with_reducible rfl))
      try simp only [Act.put, List.getElem_toArray, List.getElem_cons_zero, List.getElem_cons_succ, List.setIfInBounds_toArray, List.set_cons_zero, List.set_cons_succ]
      refine wpAnyH_take (i := 4) (v := ?v4_7) rfl (by kernel_rfl) (by kernel_rfl) (by kernel_rfl) (fun _ _ _ h => h) (Or.inl ⟨by kernel_rfl, ?y4_7⟩) (by assumption) ?r4_7
      case y4_7 => (intro w hSw; (try dsimp only at hSw); go_simp; (try with_reducible rfl))
      try simp only [Act.put, List.getElem_toArray, List.getElem_cons_zero, List.getElem_cons_succ, List.setIfInBounds_toArray, List.set_cons_zero, List.set_cons_succ]
      refine wpAnyH_ready (rs := [5]) (by kernel_rfl) (by simp) ?_
      refine AllReadyH.cons rfl (fun K hK => ?_) AllReadyH.nil
      go_simp
      have O2 : One g w1 (w1.setCell ⟨g, k * 10, none⟩ (.bool true)).drew := (One.set w1 g (k * 10) (.bool true)).drew
      have G2 : (w1.setCell ⟨g, k * 10, none⟩ (.bool true)).drew.heap[g]? = some (.cells (cur.toList.set (k * 10) (.bool true)).toArray 71 (0, 0)) := by
        rw [heap_drew, heap_setCell_same w1 g (k * 10) cur 71 _ HQ.out.2.1, ← List.setIfInBounds_toArray, Array.toArray_toList]
      have hne : w.heap.size ≠ g := fun e => by
        have h1 := HQ.out.2.2.2.1
        rw [e] at h1
        exact absurd (one_tag h1 HQ.out.2.1) (by decide)
      have HS2 : Hid ((w1.setCell ⟨g, k * 10, none⟩ (.bool true)).drew.heap[w.heap.size]? = some (.cells (stC n ys).toArray 67 (0, 0))) := (O2.far _ hne).trans HQ.out.2.2.2.1
      generalize (w1.setCell ⟨g, k * 10, none⟩ (.bool true)).drew = w2 at *
      refine hK.out _ _ HS2.out (fun hHeld => ?_)
      clear hK K
      refine wpAnyH_take (i := 6) (v := ?v6_8) rfl (by kernel_rfl) (by kernel_rfl) (by kernel_rfl) (fun _ _ _ h => h) (Or.inl ⟨by kernel_rfl, ?y6_8⟩) (by assumption) ?r6_8
      case y6_8 => (intro w hSw; (try dsimp only at hSw); go_simp; (try with_reducible rfl))
      try simp only [Act.put, List.getElem_toArray, List.getElem_cons_zero, List.getElem_cons_succ, List.setIfInBounds_toArray, List.set_cons_zero, List.set_cons_succ]
      refine wpAnyH_take (i := 7) (v := ?v7_9) rfl (by kernel_rfl) (by kernel_rfl) (by kernel_rfl) (fun _ _ _ h => h) (Or.inl ⟨by kernel_rfl, ?y7_9⟩) (by assumption) ?r7_9
      case y7_9 => (intro w hSw; (try dsimp only at hSw); go_simp; (try with_reducible rfl))
      try simp only [Act.put, List.getElem_toArray, List.getElem_cons_zero, List.getElem_cons_succ, List.setIfInBounds_toArray, List.set_cons_zero, List.set_cons_succ]
      refine wpAnyH_ready (rs := [8]) (by kernel_rfl) (by simp) ?_
      refine AllReadyH.cons rfl (fun K hK => ?_) AllReadyH.nil
      rw [if_pos (by rfl)]
      refine stepR_storeW info67s (.tmp 35) (.tmp 31) rfl g (k * 10 + 1) rfl (stC n ys) (cur.toList.set (k * 10) (.bool true)) hs9 rfl G2 (by simp; omega) (stC_one n ys) ?_
      intro w3 g3 o3
      rw [putAt_cons (by rw [hs9]; omega)] at g3
      have HF := Lib.hid (HP.out w1 w3 (true, n, ys) (Below.refl _ _) (O2.trans o3) g3 hy.1)
      have HS3 : Hid (w3.heap[w.heap.size]? = some (.cells (stC n ys).toArray 67 (0, 0))) := (o3.far _ hne).trans HS2.out
      clear g3 o3 O2 G2
      refine hK.out _ _ HS3.out (fun hHeld => ?_)
      clear hK K
      refine wpAnyH_done (by kernel_rfl) ?_ _
      go_wp2
      go_ret2
      exact ⟨rfl, HF.out.1, HF.out.2⟩
    | true =>
      rw [if_neg (by decide)] at hme
      by_cases hn : pn = n
      · rw [if_neg (by simpa using hn)] at hme
        subst hn
        obtain ⟨x0, x1, x2, x3, x4, x5, x6, x7, rfl⟩ := len8 hpx
        obtain ⟨y0, y1, y2, y3, y4, y5, y6, y7, rfl⟩ := len8 hy
        have KC := Lib.hid (fun w' => commonC [x0, x1, x2, x3, x4, x5, x6, x7] [y0, y1, y2, y3, y4, y5, y6, y7] w' hpx hy)
        have hpl : x.pl[k]? = some (true, pn, [x0, x1, x2, x3, x4, x5, x6, x7]) := HQ.out.2.2.2.2.2
        have PC : ∀ j u, (plC (true, pn, [x0, x1, x2, x3, x4, x5, x6, x7]))[j]? = some u → w1.cell? ⟨g, k * 10 + j, none⟩ = some u := fun j u hu => cell_at HQ.out.2.1 (HPC.out _ _ (pl_flat h8 hpl hu))
        have HPL : Hid (∀ w', Below w1.heap.size w1 w' → w'.cell? ⟨g, k * 10 + 1 + 1, none⟩ = some (.int .u64 x0) ∧ w'.cell? ⟨g, k * 10 + 1 + 1 + 1, none⟩ = some (.int .u64 x1) ∧ w'.cell? ⟨g, k * 10 + 1 + 1 + 2, none⟩ = some (.int .u64 x2) ∧ w'.cell? ⟨g, k * 10 + 1 + 1 + 3, none⟩ = some (.int .u64 x3) ∧ w'.cell? ⟨g, k * 10 + 1 + 1 + 4, none⟩ = some (.int .u64 x4) ∧ w'.cell? ⟨g, k * 10 + 1 + 1 + 5, none⟩ = some (.int .u64 x5) ∧ w'.cell? ⟨g, k * 10 + 1 + 1 + 6, none⟩ = some (.int .u64 x6) ∧ w'.cell? ⟨g, k * 10 + 1 + 1 + 7, none⟩ = some (.int .u64 x7)) :=
          fun w' hb => ⟨hb.cell_is lg (PC 2 _ rfl), hb.cell_is lg (PC 3 _ rfl), hb.cell_is lg (PC 4 _ rfl), hb.cell_is lg (PC 5 _ rfl), hb.cell_is lg (PC 6 _ rfl), hb.cell_is lg (PC 7 _ rfl), hb.cell_is lg (PC 8 _ rfl), hb.cell_is lg (PC 9 _ rfl)⟩
        have HYL : Hid (∀ w', Below w1.heap.size w1 w' → w'.cell? ⟨w.heap.size, 1, none⟩ = some (.int .u64 y0) ∧ w'.cell? ⟨w.heap.size, 2, none⟩ = some (.int .u64 y1) ∧ w'.cell? ⟨w.heap.size, 3, none⟩ = some (.int .u64 y2) ∧ w'.cell? ⟨w.heap.size, 4, none⟩ = some (.int .u64 y3) ∧ w'.cell? ⟨w.heap.size, 5, none⟩ = some (.int .u64 y4) ∧ w'.cell? ⟨w.heap.size, 6, none⟩ = some (.int .u64 y5) ∧ w'.cell? ⟨w.heap.size, 7, none⟩ = some (.int .u64 y6) ∧ w'.cell? ⟨w.heap.size, 8, none⟩ = some (.int .u64 y7)) :=
          fun w' hb => ⟨hb.cell_is lb (cell_at HQ.out.2.2.2.1 rfl), hb.cell_is lb (cell_at HQ.out.2.2.2.1 rfl), hb.cell_is lb (cell_at HQ.out.2.2.2.1 rfl), hb.cell_is lb (cell_at HQ.out.2.2.2.1 rfl), hb.cell_is lb (cell_at HQ.out.2.2.2.1 rfl), hb.cell_is lb (cell_at HQ.out.2.2.2.1 rfl), hb.cell_is lb (cell_at HQ.out.2.2.2.1 rfl), hb.cell_is lb (cell_at HQ.out.2.2.2.1 rfl)⟩
        generalize reachM x.pl (k : Int) pn [y0, y1, y2, y3, y4, y5, y6, y7] = m at *
        have HME := Lib.hid hme
        clear PC h8 hpl hme
        go_enter Tryd.func27, Tryd.ntmps27
        go_upto_region 1 with fail
        rw [HW.out]
        go_wp2_with fail
        refine K0.out.mono ?_
        rintro r w2 ⟨rfl, rfl⟩
        go_upto_region 7 with fail
        go_region
        go_upto_region 9 with fail
        have hBd : Below w1.heap.size w1 w1.drew.drew := ((Below.refl _ _).drew).drew
        refine wp_region_held_drew (S := fun w' => Below w1.heap.size w1 w') (by kernel_rfl) hBd (fun hHeld => ?_)
        refine wpAnyH_take (i := 0) (v := ?v0_10) rfl (by kernel_rfl) (by kernel_rfl) (by kernel_rfl) (fun _ _ _ h => h) (Or.inl ⟨by kernel_rfl, ?y0_10⟩) (by assumption) ?r0_10
        case y0_10 => (intro w hSw; (try dsimp only at hSw); go_simp; (try with_reducible rfl))
        try simp only [Act.put, List.getElem_toArray, List.getElem_cons_zero, List.getElem_cons_succ, List.setIfInBounds_toArray, List.set_cons_zero, List.set_cons_succ]
        refine wpAnyH_take (i := 1) (v := ?v1_11) rfl (by kernel_rfl) (by kernel_rfl) (by kernel_rfl) (fun _ _ _ h => h) (Or.inl ⟨by kernel_rfl, ?y1_11⟩) (by assumption) ?r1_11
        case y1_11 => (intro w hSw; (try dsimp only at hSw); go_simp; (try with_reducible rfl))
        try simp only [Act.put, List.getElem_toArray, List.getElem_cons_zero, List.getElem_cons_succ, List.setIfInBounds_toArray, List.set_cons_zero, List.set_cons_succ]
        refine wpAnyH_take (i := 2) (v := ?v2_12) rfl (by kernel_rfl) (by kernel_rfl) (by kernel_rfl) (fun _ _ _ h => h) (Or.inl ⟨by kernel_rfl, ?y2_12⟩) (by assumption) ?r2_12
        case y2_12 => (intro w hSw; (try dsimp only at hSw); go_simp; (try with_reducible rfl))
        try simp only [Act.put, List.getElem_toArray, List.getElem_cons_zero, List.getElem_cons_succ, List.setIfInBounds_toArray, List.set_cons_zero, List.set_cons_succ]
        refine wpAnyH_take (i := 3) (v := ?v3_13) rfl (by kernel_rfl) (by kernel_rfl) (by kernel_rfl) (fun _ _ _ h => h) (Or.inl ⟨by kernel_rfl, ?y3_13⟩) (by assumption) ?r3_13
        case y3_13 => (intro w hSw; (try dsimp only at hSw); go_simp; (try with_reducible rfl))
        try simp only [Act.put, List.getElem_toArray, List.getElem_cons_zero, List.getElem_cons_succ, List.setIfInBounds_toArray, List.set_cons_zero, List.set_cons_succ]
        refine wpAnyH_take (i := 4) (v := ?v4_1) rfl (by kernel_rfl) (by kernel_rfl) (by kernel_rfl) (fun _ _ _ h => h) (Or.inl ⟨by kernel_rfl, ?y4_1⟩) (by assumption) ?r4_1
        case y4_1 => (intro w hSw; obtain ⟨p0, p1, p2, p3, p4, p5, p6, p7⟩ := HPL.out _ hSw; (try dsimp only at hSw); go_simp; (try with_reducible rfl))
        try simp only [Act.put, List.getElem_toArray, List.getElem_cons_zero, List.getElem_cons_succ, List.setIfInBounds_toArray, List.set_cons_zero, List.set_cons_succ]
        refine wpAnyH_take (i := 5) (v := ?v5_2) rfl (by kernel_rfl) (by kernel_rfl) (by kernel_rfl) (fun _ _ _ h => h) (Or.inl ⟨by kernel_rfl, ?y5_2⟩) (by assumption) ?r5_2
        case y5_2 => (intro w hSw; (try dsimp only at hSw); go_simp; (try with_reducible rfl))
        try simp only [Act.put, List.getElem_toArray, List.getElem_cons_zero, List.getElem_cons_succ, List.setIfInBounds_toArray, List.set_cons_zero, List.set_cons_succ]
        refine wpAnyH_take (i := 6) (v := ?v6_3) rfl (by kernel_rfl) (by kernel_rfl) (by kernel_rfl) (fun _ _ _ h => h) (Or.inl ⟨by kernel_rfl, ?y6_3⟩) (by assumption) ?r6_3
        case y6_3 => (intro w hSw; obtain ⟨p0, p1, p2, p3, p4, p5, p6, p7⟩ := HYL.out _ hSw; (try dsimp only at hSw); go_simp; (try with_reducible rfl))
        try simp only [Act.put, List.getElem_toArray, List.getElem_cons_zero, List.getElem_cons_succ, List.setIfInBounds_toArray, List.set_cons_zero, List.set_cons_succ]
        have HWD : Hid (w1.drew.drew.heap.size = w1.heap.size) := Lib.hid rfl
        generalize w1.drew.drew = wd at *
        have hz8 := zip8 hpx hy
        refine wpAnyH_ready (rs := [7, 8]) (by kernel_rfl) (by simp) ?_
        refine AllReadyH.cons rfl (fun K hK => ?_) (AllReadyH.cons rfl (fun K hK => ?_) AllReadyH.nil)
        · go_simp
          refine (KC.out wd).mono ?_
          rintro r w2 ⟨rfl, b2⟩
          have B2 : Below w1.heap.size w1 w2 := hBd.trans (b2.mono hBd.size)
          refine hK.out _ _ B2 (fun hHeld => ?_)
          clear hK K
          refine wpAnyH_ready (rs := [8]) (by kernel_rfl) (by simp) ?_
          refine AllReadyH.cons rfl (fun K hK => ?_) AllReadyH.nil
          go_simp
          have B3 : Below w1.heap.size w1 (w2.alloc (.cells #[.int .u64 0, .int .u64 0, .int .u64 0, .int .u64 0, .int .u64 0, .int .u64 0, .int .u64 0, .int .u64 0] 65)) := B2.trans ((below_alloc w2 _).mono B2.size)
          have A3 := heap_alloc_new w2 (.cells #[.int .u64 0, .int .u64 0, .int .u64 0, .int .u64 0, .int .u64 0, .int .u64 0, .int .u64 0, .int .u64 0] 65)
          have hp : w1.heap.size ≤ w2.heap.size := B2.size
          generalize w2.alloc (.cells #[.int .u64 0, .int .u64 0, .int .u64 0, .int .u64 0, .int .u64 0, .int .u64 0, .int .u64 0, .int .u64 0] 65) = w3 at *
          generalize w2.heap.size = p at *
          refine hK.out _ _ B3 (fun hHeld => ?_)
          clear hK K b2
          refine wpAnyH_ready (rs := [9]) (by kernel_rfl) (by simp) ?_
          refine AllReadyH.cons rfl (fun K hK => ?_) AllReadyH.nil
          rw [if_pos (by rfl)]
          have hzl : (wsV (List.zipWith dgC [x0, x1, x2, x3, x4, x5, x6, x7] [y0, y1, y2, y3, y4, y5, y6, y7])).length = 8 := by rw [wsV_len]; exact hz8.1
          refine stepR_storeW info65s (.tmp 9) (.tmp 51) rfl p 0 rfl (wsV (List.zipWith dgC [x0, x1, x2, x3, x4, x5, x6, x7] [y0, y1, y2, y3, y4, y5, y6, y7])) [.int .u64 0, .int .u64 0, .int .u64 0, .int .u64 0, .int .u64 0, .int .u64 0, .int .u64 0, .int .u64 0] hzl (by first | rfl | kernel_rfl) A3 (by simp) (wsV_one _) ?_
          intro w6 g6 o6
          rw [putAt_all (by rw [hzl]; rfl)] at g6
          have B6 : Below w1.heap.size w1 w6 := B3.trans (o6.below hp)
          refine hK.out _ _ B6 (fun hHeld => ?_)
          clear hK K B3 A3 o6
          try simp only [Act.put, List.getElem_toArray, List.getElem_cons_zero, List.getElem_cons_succ, List.setIfInBounds_toArray, List.set_cons_zero, List.set_cons_succ]
          refine wpAnyH_done (by kernel_rfl) ?_ _
          have e0 : w6.cell? ⟨p, 0, none⟩ = some (.int .u64 (dgC x0 y0 : Nat)) := cell_at g6 rfl
          have e1 : w6.cell? ⟨p, 1, none⟩ = some (.int .u64 (dgC x1 y1 : Nat)) := cell_at g6 rfl
          have e2 : w6.cell? ⟨p, 2, none⟩ = some (.int .u64 (dgC x2 y2 : Nat)) := cell_at g6 rfl
          have e3 : w6.cell? ⟨p, 3, none⟩ = some (.int .u64 (dgC x3 y3 : Nat)) := cell_at g6 rfl
          have e4 : w6.cell? ⟨p, 4, none⟩ = some (.int .u64 (dgC x4 y4 : Nat)) := cell_at g6 rfl
          have e5 : w6.cell? ⟨p, 5, none⟩ = some (.int .u64 (dgC x5 y5 : Nat)) := cell_at g6 rfl
          have e6 : w6.cell? ⟨p, 6, none⟩ = some (.int .u64 (dgC x6 y6 : Nat)) := cell_at g6 rfl
          have e7 : w6.cell? ⟨p, 7, none⟩ = some (.int .u64 (dgC x7 y7 : Nat)) := cell_at g6 rfl
          have hq := eq65 (dgC x0 y0 : Nat) (dgC x1 y1 : Nat) (dgC x2 y2 : Nat) (dgC x3 y3 : Nat) (dgC x4 y4 : Nat) (dgC x5 y5 : Nat) (dgC x6 y6 : Nat) (dgC x7 y7 : Nat) x0 x1 x2 x3 x4 x5 x6 x7 w6.drew
          obtain ⟨p0, p1, p2, p3, p4, p5, p6, p7⟩ := HPL.out w6 B6
          have HB6 := Lib.hid (And.intro B6 g6)
          have HZ8 := Lib.hid (And.intro hz8 hzl)
          by_cases hzs : List.zipWith dgC [x0, x1, x2, x3, x4, x5, x6, x7] [y0, y1, y2, y3, y4, y5, y6, y7] = [x0, x1, x2, x3, x4, x5, x6, x7]
          · have hme := HME.out
            rw [if_pos hzs] at hme
            have hd : decide (((dgC x0 y0 : Nat) : Int) = x0 ∧ ((dgC x1 y1 : Nat) : Int) = x1 ∧ ((dgC x2 y2 : Nat) : Int) = x2 ∧ ((dgC x3 y3 : Nat) : Int) = x3 ∧ ((dgC x4 y4 : Nat) : Int) = x4 ∧ ((dgC x5 y5 : Nat) : Int) = x5 ∧ ((dgC x6 y6 : Nat) : Int) = x6 ∧ ((dgC x7 y7 : Nat) : Int) = x7) = true := by
              simp [List.zipWith] at hzs
              simp [hzs]
            rw [hd] at hq
            have HME2 := Lib.hid hme
            clear hme hd hzs B6 g6 hz8 hzl
            go_upto_region 10 with fail
            go_region
            go_wp2
            go_ret2
            rw [HME2.out]
            exact ⟨rfl, (H1.out.below HB6.out.1).below (Below.refl _ _).drew, HM.out.trans (.of HB6.out.1.drew H1.out.lt.2)⟩
          · have hme := HME.out
            rw [if_neg hzs] at hme
            have hd : decide (((dgC x0 y0 : Nat) : Int) = x0 ∧ ((dgC x1 y1 : Nat) : Int) = x1 ∧ ((dgC x2 y2 : Nat) : Int) = x2 ∧ ((dgC x3 y3 : Nat) : Int) = x3 ∧ ((dgC x4 y4 : Nat) : Int) = x4 ∧ ((dgC x5 y5 : Nat) : Int) = x5 ∧ ((dgC x6 y6 : Nat) : Int) = x6 ∧ ((dgC x7 y7 : Nat) : Int) = x7) = false := by
              rw [decide_eq_false_iff_not]
              intro e
              refine hzs ?_
              simp only [List.zipWith]
              simp only [Int.natCast_inj] at e
              simp [e]
            rw [hd] at hq
            have HME2 := Lib.hid hme
            clear hme hd hzs B6 g6 hz8 hzl
            go_upto_region 10 with fail
            go_region
            have HE := Lib.hid (And.intro e0 (And.intro e1 (And.intro e2 (And.intro e3 (And.intro e4 (And.intro e5 (And.intro e6 e7)))))))
            go_upto_region 12 with fail
            have G6 : w6.drew.heap[g]? = some (.cells cur.toList.toArray 71 (0, 0)) := by
              rw [Array.toArray_toList]
              exact (HB6.out.1.block _ lg).trans HQ.out.2.1
            go_wp2_with (refine wpList_storeW info65s rfl (.tmp 63) (.tmp 60) rfl rfl g (k * 10 + 1 + 1) rfl (wsV (List.zipWith dgC [x0, x1, x2, x3, x4, x5, x6, x7] [y0, y1, y2, y3, y4, y5, y6, y7])) cur.toList HZ8.out.2 rfl G6 (by omega) (wsV_one _) ?_; intro w7 g7 o7)
            have g8 : w7.heap[g]? = some (.cells (putAt cur.toList (k * 10) (plC (true, pn, List.zipWith dgC [x0, x1, x2, x3, x4, x5, x6, x7] [y0, y1, y2, y3, y4, y5, y6, y7]))).toArray 71 (0, 0)) := by
              rw [g7]
              congr 3
              have h0 : cur.toList[k * 10]? = some (.bool true) := by simpa using HPC.out _ _ (pl_flat HP8.out hpk (j := 0) rfl)
              have h1 : cur.toList[k * 10 + 1]? = some (.int .i64 pn) := by simpa using HPC.out _ _ (pl_flat HP8.out hpk (j := 1) rfl)
              exact putAt_two h0 h1 (by rw [HZ8.out.2]; omega)
            have HF := Lib.hid (HP.out w6.drew w7 (true, pn, List.zipWith dgC [x0, x1, x2, x3, x4, x5, x6, x7] [y0, y1, y2, y3, y4, y5, y6, y7]) HB6.out.1.drew o7 g8 HZ8.out.1.1)
            clear g7 g8 o7
            go_wp2
            go_ret2
            rw [HME2.out]
            exact ⟨rfl, HF.out.1, HF.out.2⟩
        · go_simp
          have hwd : wd.heap.size = w1.heap.size := HWD.out
          have B2 : Below w1.heap.size w1 (wd.alloc (.cells #[.int .u64 0, .int .u64 0, .int .u64 0, .int .u64 0, .int .u64 0, .int .u64 0, .int .u64 0, .int .u64 0] 65)) := hBd.trans ((below_alloc wd _).mono (Nat.le_of_eq hwd.symm))
          have A2 := heap_alloc_new wd (.cells #[.int .u64 0, .int .u64 0, .int .u64 0, .int .u64 0, .int .u64 0, .int .u64 0, .int .u64 0, .int .u64 0] 65)
          rw [hwd] at A2
          have hp : w1.heap.size ≤ w1.heap.size := Nat.le_refl _
          generalize wd.alloc (.cells #[.int .u64 0, .int .u64 0, .int .u64 0, .int .u64 0, .int .u64 0, .int .u64 0, .int .u64 0, .int .u64 0] 65) = w2 at *
          refine hK.out _ _ B2 (fun hHeld => ?_)
          clear hK K
          refine wpAnyH_ready (rs := [7]) (by kernel_rfl) (by simp) ?_
          refine AllReadyH.cons rfl (fun K hK => ?_) AllReadyH.nil
          go_simp
          refine (KC.out w2).mono ?_
          rintro r w3 ⟨rfl, b2⟩
          have B3 : Below w1.heap.size w1 w3 := B2.trans (b2.mono B2.size)
          have A3 := A2
          rw [← b2.block _ (lt_someV A2)] at A3
          refine hK.out _ _ B3 (fun hHeld => ?_)
          clear hK K b2 A2
          refine wpAnyH_ready (rs := [9]) (by kernel_rfl) (by simp) ?_
          refine AllReadyH.cons rfl (fun K hK => ?_) AllReadyH.nil
          rw [if_pos (by rfl)]
          have hzl : (wsV (List.zipWith dgC [x0, x1, x2, x3, x4, x5, x6, x7] [y0, y1, y2, y3, y4, y5, y6, y7])).length = 8 := by rw [wsV_len]; exact hz8.1
          refine stepR_storeW info65s (.tmp 9) (.tmp 51) rfl w1.heap.size 0 rfl (wsV (List.zipWith dgC [x0, x1, x2, x3, x4, x5, x6, x7] [y0, y1, y2, y3, y4, y5, y6, y7])) [.int .u64 0, .int .u64 0, .int .u64 0, .int .u64 0, .int .u64 0, .int .u64 0, .int .u64 0, .int .u64 0] hzl (by first | rfl | kernel_rfl) A3 (by simp) (wsV_one _) ?_
          intro w6 g6 o6
          rw [putAt_all (by rw [hzl]; rfl)] at g6
          have B6 : Below w1.heap.size w1 w6 := B3.trans (o6.below hp)
          refine hK.out _ _ B6 (fun hHeld => ?_)
          clear hK K B3 A3 o6
          try simp only [Act.put, List.getElem_toArray, List.getElem_cons_zero, List.getElem_cons_succ, List.setIfInBounds_toArray, List.set_cons_zero, List.set_cons_succ]
          refine wpAnyH_done (by kernel_rfl) ?_ _
          have e0 : w6.cell? ⟨w1.heap.size, 0, none⟩ = some (.int .u64 (dgC x0 y0 : Nat)) := cell_at g6 rfl
          have e1 : w6.cell? ⟨w1.heap.size, 1, none⟩ = some (.int .u64 (dgC x1 y1 : Nat)) := cell_at g6 rfl
          have e2 : w6.cell? ⟨w1.heap.size, 2, none⟩ = some (.int .u64 (dgC x2 y2 : Nat)) := cell_at g6 rfl
          have e3 : w6.cell? ⟨w1.heap.size, 3, none⟩ = some (.int .u64 (dgC x3 y3 : Nat)) := cell_at g6 rfl
          have e4 : w6.cell? ⟨w1.heap.size, 4, none⟩ = some (.int .u64 (dgC x4 y4 : Nat)) := cell_at g6 rfl
          have e5 : w6.cell? ⟨w1.heap.size, 5, none⟩ = some (.int .u64 (dgC x5 y5 : Nat)) := cell_at g6 rfl
          have e6 : w6.cell? ⟨w1.heap.size, 6, none⟩ = some (.int .u64 (dgC x6 y6 : Nat)) := cell_at g6 rfl
          have e7 : w6.cell? ⟨w1.heap.size, 7, none⟩ = some (.int .u64 (dgC x7 y7 : Nat)) := cell_at g6 rfl
          have hq := eq65 (dgC x0 y0 : Nat) (dgC x1 y1 : Nat) (dgC x2 y2 : Nat) (dgC x3 y3 : Nat) (dgC x4 y4 : Nat) (dgC x5 y5 : Nat) (dgC x6 y6 : Nat) (dgC x7 y7 : Nat) x0 x1 x2 x3 x4 x5 x6 x7 w6.drew
          obtain ⟨p0, p1, p2, p3, p4, p5, p6, p7⟩ := HPL.out w6 B6
          have HB6 := Lib.hid (And.intro B6 g6)
          have HZ8 := Lib.hid (And.intro hz8 hzl)
          by_cases hzs : List.zipWith dgC [x0, x1, x2, x3, x4, x5, x6, x7] [y0, y1, y2, y3, y4, y5, y6, y7] = [x0, x1, x2, x3, x4, x5, x6, x7]
          · have hme := HME.out
            rw [if_pos hzs] at hme
            have hd : decide (((dgC x0 y0 : Nat) : Int) = x0 ∧ ((dgC x1 y1 : Nat) : Int) = x1 ∧ ((dgC x2 y2 : Nat) : Int) = x2 ∧ ((dgC x3 y3 : Nat) : Int) = x3 ∧ ((dgC x4 y4 : Nat) : Int) = x4 ∧ ((dgC x5 y5 : Nat) : Int) = x5 ∧ ((dgC x6 y6 : Nat) : Int) = x6 ∧ ((dgC x7 y7 : Nat) : Int) = x7) = true := by
              simp [List.zipWith] at hzs
              simp [hzs]
            rw [hd] at hq
            have HME2 := Lib.hid hme
            clear hme hd hzs B6 g6 hz8 hzl
            go_upto_region 10 with fail
            go_region
            go_wp2
            go_ret2
            rw [HME2.out]
            exact ⟨rfl, (H1.out.below HB6.out.1).below (Below.refl _ _).drew, HM.out.trans (.of HB6.out.1.drew H1.out.lt.2)⟩
          · have hme := HME.out
            rw [if_neg hzs] at hme
            have hd : decide (((dgC x0 y0 : Nat) : Int) = x0 ∧ ((dgC x1 y1 : Nat) : Int) = x1 ∧ ((dgC x2 y2 : Nat) : Int) = x2 ∧ ((dgC x3 y3 : Nat) : Int) = x3 ∧ ((dgC x4 y4 : Nat) : Int) = x4 ∧ ((dgC x5 y5 : Nat) : Int) = x5 ∧ ((dgC x6 y6 : Nat) : Int) = x6 ∧ ((dgC x7 y7 : Nat) : Int) = x7) = false := by
              rw [decide_eq_false_iff_not]
              intro e
              refine hzs ?_
              simp only [List.zipWith]
              simp only [Int.natCast_inj] at e
              simp [e]
            rw [hd] at hq
            have HME2 := Lib.hid hme
            clear hme hd hzs B6 g6 hz8 hzl
            go_upto_region 10 with fail
            go_region
            have HE := Lib.hid (And.intro e0 (And.intro e1 (And.intro e2 (And.intro e3 (And.intro e4 (And.intro e5 (And.intro e6 e7)))))))
            go_upto_region 12 with fail
            have G6 : w6.drew.heap[g]? = some (.cells cur.toList.toArray 71 (0, 0)) := by
              rw [Array.toArray_toList]
              exact (HB6.out.1.block _ lg).trans HQ.out.2.1
            go_wp2_with (refine wpList_storeW info65s rfl (.tmp 63) (.tmp 60) rfl rfl g (k * 10 + 1 + 1) rfl (wsV (List.zipWith dgC [x0, x1, x2, x3, x4, x5, x6, x7] [y0, y1, y2, y3, y4, y5, y6, y7])) cur.toList HZ8.out.2 rfl G6 (by omega) (wsV_one _) ?_; intro w7 g7 o7)
            have g8 : w7.heap[g]? = some (.cells (putAt cur.toList (k * 10) (plC (true, pn, List.zipWith dgC [x0, x1, x2, x3, x4, x5, x6, x7] [y0, y1, y2, y3, y4, y5, y6, y7]))).toArray 71 (0, 0)) := by
              rw [g7]
              congr 3
              have h0 : cur.toList[k * 10]? = some (.bool true) := by simpa using HPC.out _ _ (pl_flat HP8.out hpk (j := 0) rfl)
              have h1 : cur.toList[k * 10 + 1]? = some (.int .i64 pn) := by simpa using HPC.out _ _ (pl_flat HP8.out hpk (j := 1) rfl)
              exact putAt_two h0 h1 (by rw [HZ8.out.2]; omega)
            have HF := Lib.hid (HP.out w6.drew w7 (true, pn, List.zipWith dgC [x0, x1, x2, x3, x4, x5, x6, x7] [y0, y1, y2, y3, y4, y5, y6, y7]) HB6.out.1.drew o7 g8 HZ8.out.1.1)
            clear g7 g8 o7
            go_wp2
            go_ret2
            rw [HME2.out]
            exact ⟨rfl, HF.out.1, HF.out.2⟩
      · rw [if_pos hn] at hme
        rw [hme]
        have hbe : ((pn : Int) != (n : Int)) = true := by simp; omega
        clear hme
        go_enter Tryd.func27, Tryd.ntmps27
        go_upto_region 1 with fail
        rw [HW.out]
        go_wp2_with fail
        refine K0.out.mono ?_
        rintro r w2 ⟨rfl, rfl⟩
        go_upto_region 7 with fail
        go_region
        go_wp2
        go_ret2
        exact ⟨rfl, H1.out.below (Below.refl _ _).drew, HM.out.trans (.of (Below.refl _ _).drew H1.out.lt.2)⟩
  · have hme : reachM x.pl a n ys = (x.pl, false, false) := by
      unfold reachM
      rw [if_neg ha]
    rw [hme]
    have K0 := Lib.hid (withinN a x.pl.length w1 ha)
    clear h hb h1 hw1 hme hA
    go_enter Tryd.func27, Tryd.ntmps27
    go_upto_region 1 with fail
    rw [HW.out]
    go_wp2_with fail
    refine K0.out.mono ?_
    rintro r w2 ⟨rfl, rfl⟩
    go_wp2
    go_ret2
    exact ⟨rfl, H1.out, HM.out⟩
end Go.Proofs.YtilmidjkjgeoeaaDoor
