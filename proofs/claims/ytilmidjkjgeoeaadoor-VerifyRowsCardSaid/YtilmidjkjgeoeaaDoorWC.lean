/- The search through a function: the walk. Conditions: those in each theorem. -/
import Derived.Test.YtilmidjkjgeoeaaDoorWB
namespace Go.Proofs.YtilmidjkjgeoeaaDoor
open Go.RowKit Go.MapKept
set_option maxRecDepth 100000
set_option linter.unusedVariables false
set_option linter.unusedSimpArgs false
theorem info35s : (Tryd.prog.info? 35).map (·.size) = some 2 := by kernel_rfl
theorem two_new (w : World) (X Y : Obj) : Below w.heap.size w ((w.alloc X).alloc Y).drew ∧ ((w.alloc X).alloc Y).drew.heap[w.heap.size]? = some X ∧ ((w.alloc X).alloc Y).drew.heap[w.heap.size + 1]? = some Y := by
  have b1 := below_alloc w X
  have a1 := heap_alloc_new w X
  have s1 : (w.alloc X).heap.size = w.heap.size + 1 := by simp
  have b2 := below_allocD (w.alloc X) Y
  have a2 := heap_alloc_newD (w.alloc X) Y
  rw [s1] at a2
  exact ⟨b1.trans (b2.mono (by omega)), (b2.block _ (by omega)).trans a1, a2⟩
theorem range_low {w w' : World} {b o : Nat} {cs : List Value} (hb : Below w.heap.size w w') (hl : b < w.heap.size) (h : w.rangeAt b o cs) : w'.rangeAt b o cs := fun j v hv => hb.cell_is hl (h j v hv)
set_option maxHeartbeats 1600000 in
theorem safeC {B W : Nat} {x0 : Wx} {L V R : Value} {P : Pv} {cs : List Cd} {c : Cd} {a0 : Sv} (w : World) (h : WkAt B W x0 L V R w) (hE : x0.E = [(0, 0, 0)]) (hpl : x0.pl = List.replicate c.instrs.length pl0) (hrem : x0.rem = []) (h0 : a0.st = []) (hsl : a0.sl = c.params ++ List.replicate (a0.sl.length - c.params.length) 0) (hp : SafeP B x0 P cs c a0.sl.length w) :
    Calls Tryd.prog 16 #[.pointer (some ⟨W, 0, none⟩)] w (SafeQ P c a0 B w) := by
  have lB := h.lt.2
  have hU : TyAt w (w.heap.size + 1) x0.P c.params := tyat_row hp.hP (by omega) lB
  have K1 := Lib.hid (firstC c.params w h hU hp.hps (by have := hp.hpm; have := hp.hm; omega))
  have K2 := Lib.hid (fun (ys : List Nat) (w1 : World) (hb : Below w.heap.size w w1) (hy : Ws8 ys) => laterC 0 0 ys w1 (h.below hb) hy (by rw [hpl]; intro p hp; rw [(List.mem_replicate.1 hp).2]; exact ws0_ok) (by rw [hrem]; exact Nat.zero_le _))
  have K3 := Lib.hid (fun (ys : List Nat) (w1 : World) (L V R' : Value) (w2 : World) (hy : Ws8 ys) (hs : SlR ys c.params) hk hb => so_start (P := P) (c := c) (a0 := a0) (B := B) (W := W) (x0 := x0) (w0 := w) (w := w2) (R := R') (L := L) (V := V) (R' := R') (w' := w2) hE hpl hrem h0 hp.hm hp.hn hy (by rw [hsl]; exact hs.pad _) hk hb)
  have HP := Lib.hid hp
  have HB := Lib.hid lB
  clear hE hpl hrem h0 hsl hp hU h lB
  go_enter Tryd.func16, Tryd.ntmps16
  go_wp2_with fail
  go_step3
  go_wp2_with fail
  refine K1.out.mono ?_
  rintro r w1 ⟨ys, hy, hs, rfl, hb1⟩
  have KK := Lib.hid (K2.out ys w1 hb1 hy)
  have HY := Lib.hid (And.intro hy (And.intro hs hb1))
  clear K2 hy hs hb1
  go_wp2_with fail
  refine KK.out.mono ?_
  rintro r w2 ⟨rfl, R', hk, hm⟩
  have HS := Lib.hid (K3.out ys w1 L V R' w2 HY.out.1 HY.out.2.1 hk ((HY.out.2.2.mono HB.out).trans hm.low))
  have HB2 := Lib.hid ((HY.out.2.2.mono HB.out).trans hm.low)
  clear K3 KK hk hm
  generalize (reachM x0.pl 0 0 ys).2.2 = is at *
  cases is with
  | false =>
    have HR : Hid (SafeQ P c a0 B w (.returned (.bool false)) w2) := Lib.hid ⟨false, rfl, ⟨fun e => (by cases e), fun hs => absurd hs (HS.out.1 rfl)⟩, HB2.out⟩
    clear HS
    go_wp2_with fail
    simp only [Exit.noGoto]
    go_ret
    exact HR.out
  | true =>
    obtain ⟨N, k, hN, hso⟩ := HS.out.2 rfl
    have HSO := Lib.hid hso
    clear HS hso HY HB2
    go_wp2_with fail
    go_step3
    go_wp2_with fail
    go_loopg [] k (fun k wr => SoO B W x0 P c a0 N w k wr)
    case atStart => exact HSO.out
    case round =>
      clear HSO
      obtain ⟨x, S, T, L, V, R, hsf, hlf, hbe⟩ := hrel
      obtain ⟨AR, cR, rfl, hr1, hr2⟩ := own_slice hsf.wk.rem
      have c10 := (wk_cells hsf.wk.cell).2.2.2.2.2.2.2.2.2.1
      unfold maxLen at hr2
      by_cases hz : x.rem = []
      · have hz0 : x.rem.length = 0 := by rw [hz]; rfl
        have HR : Hid (SafeQ P c a0 B w (.returned (.bool true)) wr) := Lib.hid ⟨true, rfl, ⟨fun _ => hsf.wv.stop (by intro j hj; rw [hz] at hj; cases hj), fun _ => rfl⟩, hbe⟩
        rw [hz0] at c10
        clear hsf hlf hbe hr1 hr2 hz hz0
        go_wp2_with fail
        simp only [Exit.noGoto]
        go_ret
        exact HR.out
      · obtain ⟨at_, hat⟩ : ∃ j, x.rem.getLast? = some j := by
          cases hg : x.rem.getLast? with
          | none => exact absurd (List.getLast?_eq_none_iff.1 hg) hz
          | some j => exact ⟨j, rfl⟩
        have KT := Lib.hid (takeC at_ wr hsf.wk hat)
        have hpos : (0 : Int) < (x.rem.length : Int) := by have := List.length_pos_iff.2 hz; omega
        have HSF := Lib.hid (And.intro hsf (And.intro hlf hbe))
        have HAT := Lib.hid hat
        clear hsf hlf hbe hz hat
        go_wp2_with fail
        refine KT.out.mono ?_
        rintro r w3 ⟨rfl, R', hk, hm⟩
        have HSI : Hid (SoI B W x0 P c a0 N w gk (gk - 1) (.int .i64 at_) w3) := Lib.hid (so_take HSF.out.1 HSF.out.2.1 HSF.out.2.2 HAT.out hk hm)
        clear KT hk hm HSF HAT c10 hpos hr1 hr2
        obtain ⟨og, hog⟩ : ∃ g, g = gk := ⟨gk, rfl⟩
        subst hog
        go_wp2_with fail
        go_loopg [3] (og - 1) (fun k v wr => SoI B W x0 P c a0 N w og k v wr)
        case atStart => exact HSI.out
        case round =>
          clear HSI
          obtain ⟨hkg, x, S, T, L, V, R, at_, s, rfl, hTs, hsf, hlf, hbe⟩ := hrel
          have hpw := HP.out.low hbe
          obtain ⟨n, ys, hpn, hrep⟩ := hsf.tv.at hTs
          have hatl : at_ < x.pl.length := (List.getElem?_eq_some_iff.1 hpn).1
          have hati : at_ < c.instrs.length := by rw [← hsf.pl]; exact hatl
          obtain ⟨i, hi⟩ : ∃ i, c.instrs[at_]? = some i := ⟨_, List.getElem?_eq_getElem hati⟩
          have hop := hpw.hin i (List.mem_of_getElem? hi)
          obtain ⟨op, A⟩ := i
          obtain ⟨AI, cI, hIe, hi1, hi2, hi3⟩ := hpw.hI
          have hia := insV_at hi
          obtain ⟨bI, oI, rfl, hbI, hcI⟩ := lies_flat hi3 hia.1
          obtain ⟨g, cV, cur, rfl, q1, q2, q3, q4, q5, q6⟩ := own_pos hsf.wk.pl (by omega)
          have h8 : ∀ p ∈ x.pl, p.2.2.length = 8 := fun p hp => (hsf.tv.ws p hp).1
          have HRI : Hid (wr.rangeAt bI (oI + at_ * 2) [.int .i64 op, .int .i64 A]) := Lib.hid (fun j v hv => by
            match j, hv with
            | 0, hv => injection hv with hv; subst hv; exact hcI _ _ hia.1
            | 1, hv => injection hv with hv; subst hv; exact hcI _ _ hia.2)
          have HRS : Hid (wr.rangeAt g (at_ * 10 + 1) (stC n ys)) := Lib.hid (fun j v hv => by
            have := cell_at q4 (q6 _ _ (pl_flat h8 hpn (j := j + 1) (u := v) hv))
            rw [show at_ * 10 + (j + 1) = at_ * 10 + 1 + j by omega] at this
            exact this)
          have c8 := (wk_cells hsf.wk.cell).2.2.2.2.2.2.2.1
          have c9 := (wk_cells hsf.wk.cell).2.2.2.2.2.2.2.2.1
          rw [hsf.same.I, hIe] at c8
          have lW : W < wr.heap.size := hsf.wk.lt.1
          have lI : bI < wr.heap.size := by have := hsf.wk.lt.2; omega
          have lg : g < wr.heap.size := lt_someV q4
          have hatlI : (at_ : Int) < (x.pl.length : Int) := by omega
          have hatiI : (at_ : Int) < (c.instrs.length : Int) := by omega
          have hs9 : (stC n ys).length = 9 := by rw [stC_len, hrep.ok.1]
          unfold maxLen at hi2 q2
          have HSF := Lib.hid (And.intro hsf (And.intro hlf (And.intro hbe (And.intro hTs (And.intro hrep (And.intro hi (And.intro hop hpw)))))))
          clear hsf hlf hbe hTs hrep hi hop hpw hpn hatl hati hia hcI hi3 h8 q3 q4 q5 q6 hIe
          go_upto_region 5 with fail
          go_cut [4, 5] (fun v4 v5 wc => ∃ bx St : Nat, v4 = .pointer (some ⟨bx, 0, none⟩) ∧ v5 = .pointer (some ⟨St, 0, none⟩) ∧ Hid (wc.heap[bx]? = some (.cells #[.int .i64 op, .int .i64 A] 35 (0, 0)) ∧ wc.heap[St]? = some (stO n ys) ∧ Below wr.heap.size wr wc ∧ wr.heap.size ≤ bx ∧ wr.heap.size ≤ St))
          case first =>
            refine wp_region_held_drew (S := fun w' => Below wr.heap.size wr w') (by kernel_rfl) ((Below.refl _ _).drew) (fun hHeld => ?_)
            refine wpAnyH_take (i := 0) (v := ?v0_3) rfl (by kernel_rfl) (by kernel_rfl) (by kernel_rfl) (fun _ _ _ h => h) (Or.inl ⟨by kernel_rfl, ?y0_3⟩) (by assumption) ?r0_3
            case y0_3 => (intro w hSw; (try dsimp only at hSw); go_simp; (try with_reducible rfl))
            try simp only [Act.put, List.getElem_toArray, List.getElem_cons_zero, List.getElem_cons_succ, List.setIfInBounds_toArray, List.set_cons_zero, List.set_cons_succ]
            refine wpAnyH_take (i := 1) (v := ?v1_4) rfl (by kernel_rfl) (by kernel_rfl) (by kernel_rfl) (fun _ _ _ h => h) (Or.inl ⟨by kernel_rfl, ?y1_4⟩) (by assumption) ?r1_4
            case y1_4 => (intro w hSw; (try dsimp only at hSw); go_simp; (try with_reducible rfl))
            try simp only [Act.put, List.getElem_toArray, List.getElem_cons_zero, List.getElem_cons_succ, List.setIfInBounds_toArray, List.set_cons_zero, List.set_cons_succ]
            refine wpAnyH_take (i := 2) (v := ?v2_5) rfl (by kernel_rfl) (by kernel_rfl) (by kernel_rfl) (fun _ _ _ h => h) (Or.inl ⟨by kernel_rfl, ?y2_5⟩) (by assumption) ?r2_5
            case y2_5 => (intro w hSw; (try dsimp only at hSw); go_simp; (try with_reducible rfl))
            try simp only [Act.put, List.getElem_toArray, List.getElem_cons_zero, List.getElem_cons_succ, List.setIfInBounds_toArray, List.set_cons_zero, List.set_cons_succ]
            refine wpAnyH_take (i := 3) (v := ?v3_6) rfl (by kernel_rfl) (by kernel_rfl) (by kernel_rfl) (fun _ _ _ h => h) (Or.inl ⟨by kernel_rfl, ?y3_6⟩) (by assumption) ?r3_6
            case y3_6 => (intro w hSw; (try dsimp only at hSw); go_simp; (try with_reducible rfl))
            try simp only [Act.put, List.getElem_toArray, List.getElem_cons_zero, List.getElem_cons_succ, List.setIfInBounds_toArray, List.set_cons_zero, List.set_cons_succ]
            refine wpAnyH_take (i := 4) (v := ?v4_1) rfl (by kernel_rfl) (by kernel_rfl) (by kernel_rfl) (fun _ _ _ h => h) (Or.inl ⟨by kernel_rfl, ?y4_1⟩) (by assumption) ?r4_1
            case y4_1 => (intro w hSw; have r8 := hSw.cell_is lW c8; (try dsimp only at hSw); go_simp; (try with_reducible rfl))
            try simp only [Act.put, List.getElem_toArray, List.getElem_cons_zero, List.getElem_cons_succ, List.setIfInBounds_toArray, List.set_cons_zero, List.set_cons_succ]
            refine wpAnyH_take (i := 5) (v := ?v5_7) rfl (by kernel_rfl) (by kernel_rfl) (by kernel_rfl) (fun _ _ _ h => h) (Or.inl ⟨by kernel_rfl, ?y5_7⟩) (by assumption) ?r5_7
            case y5_7 => (intro w hSw; (try dsimp only at hSw); go_simp; (try with_reducible rfl))
            try simp only [Act.put, List.getElem_toArray, List.getElem_cons_zero, List.getElem_cons_succ, List.setIfInBounds_toArray, List.set_cons_zero, List.set_cons_succ]
            refine wpAnyH_take (i := 6) (v := ?v6_8) rfl (by kernel_rfl) (by kernel_rfl) (by kernel_rfl) (fun _ _ _ h => h) (Or.inl ⟨by kernel_rfl, ?y6_8⟩) (by assumption) ?r6_8
            case y6_8 => (intro w hSw; (try dsimp only at hSw); go_simp; (try with_reducible rfl))
            try simp only [Act.put, List.getElem_toArray, List.getElem_cons_zero, List.getElem_cons_succ, List.setIfInBounds_toArray, List.set_cons_zero, List.set_cons_succ]
            refine wpAnyH_take (i := 7) (v := .agg #[.int .i64 op, .int .i64 A]) rfl (by kernel_rfl) (by kernel_rfl) (by kernel_rfl) (fun _ _ _ h => h) (yieldsIf_load_mid (by kernel_rfl) 35 (.tmp 27) rfl bI (oI + at_ * 2) rfl [.int .i64 op, .int .i64 A] _ (fun w hw => range_low hw lI HRI.out) Tryd.underlying35 rfl (by exact info35s)) (by assumption) ?_
            try simp only [Act.put, List.getElem_toArray, List.getElem_cons_zero, List.getElem_cons_succ, List.setIfInBounds_toArray, List.set_cons_zero, List.set_cons_succ]
            refine wpAnyH_take (i := 8) (v := ?v8_9) rfl (by kernel_rfl) (by kernel_rfl) (by kernel_rfl) (fun _ _ _ h => h) (Or.inl ⟨by kernel_rfl, ?y8_9⟩) (by assumption) ?r8_9
            case y8_9 => (intro w hSw; (try dsimp only at hSw); go_simp; (try with_reducible rfl))
            try simp only [Act.put, List.getElem_toArray, List.getElem_cons_zero, List.getElem_cons_succ, List.setIfInBounds_toArray, List.set_cons_zero, List.set_cons_succ]
            refine wpAnyH_take (i := 9) (v := ?v9_10) rfl (by kernel_rfl) (by kernel_rfl) (by kernel_rfl) (fun _ _ _ h => h) (Or.inl ⟨by kernel_rfl, ?y9_10⟩) (by assumption) ?r9_10
            case y9_10 => (intro w hSw; (try dsimp only at hSw); go_simp; (try with_reducible rfl))
            try simp only [Act.put, List.getElem_toArray, List.getElem_cons_zero, List.getElem_cons_succ, List.setIfInBounds_toArray, List.set_cons_zero, List.set_cons_succ]
            refine wpAnyH_take (i := 10) (v := ?v10_11) rfl (by kernel_rfl) (by kernel_rfl) (by kernel_rfl) (fun _ _ _ h => h) (Or.inl ⟨by kernel_rfl, ?y10_11⟩) (by assumption) ?r10_11
            case y10_11 => (intro w hSw; (try dsimp only at hSw); go_simp; (try with_reducible rfl))
            try simp only [Act.put, List.getElem_toArray, List.getElem_cons_zero, List.getElem_cons_succ, List.setIfInBounds_toArray, List.set_cons_zero, List.set_cons_succ]
            refine wpAnyH_take (i := 11) (v := ?v11_2) rfl (by kernel_rfl) (by kernel_rfl) (by kernel_rfl) (fun _ _ _ h => h) (Or.inl ⟨by kernel_rfl, ?y11_2⟩) (by assumption) ?r11_2
            case y11_2 => (intro w hSw; have r9 := hSw.cell_is lW c9; (try dsimp only at hSw); go_simp; (try with_reducible rfl))
            try simp only [Act.put, List.getElem_toArray, List.getElem_cons_zero, List.getElem_cons_succ, List.setIfInBounds_toArray, List.set_cons_zero, List.set_cons_succ]
            refine wpAnyH_take (i := 12) (v := ?v12_12) rfl (by kernel_rfl) (by kernel_rfl) (by kernel_rfl) (fun _ _ _ h => h) (Or.inl ⟨by kernel_rfl, ?y12_12⟩) (by assumption) ?r12_12
            case y12_12 => (intro w hSw; (try dsimp only at hSw); go_simp; (try with_reducible rfl))
            try simp only [Act.put, List.getElem_toArray, List.getElem_cons_zero, List.getElem_cons_succ, List.setIfInBounds_toArray, List.set_cons_zero, List.set_cons_succ]
            refine wpAnyH_take (i := 13) (v := ?v13_13) rfl (by kernel_rfl) (by kernel_rfl) (by kernel_rfl) (fun _ _ _ h => h) (Or.inl ⟨by kernel_rfl, ?y13_13⟩) (by assumption) ?r13_13
            case y13_13 => (intro w hSw; (try dsimp only at hSw); go_simp; (try with_reducible rfl))
            try simp only [Act.put, List.getElem_toArray, List.getElem_cons_zero, List.getElem_cons_succ, List.setIfInBounds_toArray, List.set_cons_zero, List.set_cons_succ]
            refine wpAnyH_take (i := 14) (v := ?v14_14) rfl (by kernel_rfl) (by kernel_rfl) (by kernel_rfl) (fun _ _ _ h => h) (Or.inl ⟨by kernel_rfl, ?y14_14⟩) (by assumption) ?r14_14
            case y14_14 => (intro w hSw; (try dsimp only at hSw); go_simp; (try with_reducible rfl))
            try simp only [Act.put, List.getElem_toArray, List.getElem_cons_zero, List.getElem_cons_succ, List.setIfInBounds_toArray, List.set_cons_zero, List.set_cons_succ]
            refine wpAnyH_take (i := 15) (v := .agg (stC n ys).toArray) rfl (by kernel_rfl) (by kernel_rfl) (by kernel_rfl) (fun _ _ _ h => h) (yieldsIf_load_mid (by kernel_rfl) 67 (.tmp 35) rfl g (at_ * 10 + 1) rfl (stC n ys) _ (fun w hw => range_low hw lg HRS.out) Tryd.underlying67 rfl (by rw [hs9]; exact info67s)) (by assumption) ?_
            try simp only [Act.put, List.getElem_toArray, List.getElem_cons_zero, List.getElem_cons_succ, List.setIfInBounds_toArray, List.set_cons_zero, List.set_cons_succ]
            refine wpAnyH_ready (rs := [16, 17]) (by kernel_rfl) (by simp) ?_
            refine AllReadyH.cons rfl (fun K hK => ?_) (AllReadyH.cons rfl (fun K hK => ?_) AllReadyH.nil)
            · go_simp
              refine hK.out _ _ (below_allocD wr _) (fun hHeld => ?_)
              clear hK K
              refine wpAnyH_ready (rs := [17]) (by kernel_rfl) (by simp) ?_
              refine AllReadyH.cons rfl (fun K hK => ?_) AllReadyH.nil
              go_simp
              have HT := Lib.hid (two_new wr (.cells #[Value.int IntKind.i64 0, Value.int IntKind.i64 0] 35) (.cells #[Value.int IntKind.i64 0, Value.int IntKind.u64 0, Value.int IntKind.u64 0, Value.int IntKind.u64 0, Value.int IntKind.u64 0, Value.int IntKind.u64 0, Value.int IntKind.u64 0, Value.int IntKind.u64 0, Value.int IntKind.u64 0] 67))
              generalize ((wr.alloc (.cells #[Value.int IntKind.i64 0, Value.int IntKind.i64 0] 35)).alloc (.cells #[Value.int IntKind.i64 0, Value.int IntKind.u64 0, Value.int IntKind.u64 0, Value.int IntKind.u64 0, Value.int IntKind.u64 0, Value.int IntKind.u64 0, Value.int IntKind.u64 0, Value.int IntKind.u64 0, Value.int IntKind.u64 0] 67)).drew = w5 at *
              refine hK.out _ _ HT.out.1 (fun hHeld => ?_)
              clear hK K
              refine wpAnyH_ready (rs := [18]) (by kernel_rfl) (by simp) ?_
              refine AllReadyH.cons rfl (fun K hK => ?_) AllReadyH.nil
              refine stepR_storeW info35s (.tmp 4) (.tmp 28) rfl (wr.heap.size) 0 rfl [.int .i64 op, .int .i64 A] [.int .i64 0, .int .i64 0] rfl rfl HT.out.2.1 (by decide) (by intro u hu; simp at hu; rcases hu with rfl | rfl <;> rfl) ?_
              intro w6 g6 o6
              rw [putAt_all (by rfl)] at g6
              have HG6 := Lib.hid (And.intro g6 o6)
              refine hK.out _ _ (HT.out.1.trans (o6.below (by omega))) (fun hHeld => ?_)
              clear hK K g6 o6
              refine wpAnyH_ready (rs := [19]) (by kernel_rfl) (by simp) ?_
              refine AllReadyH.cons rfl (fun K hK => ?_) AllReadyH.nil
              have H5 : w6.heap[wr.heap.size + 1]? = some (.cells (stC 0 ws0).toArray 67 (0, 0)) := (HG6.out.2.far _ (by omega)).trans HT.out.2.2
              refine stepR_storeW info67s (.tmp 5) (.tmp 36) rfl (wr.heap.size + 1) 0 rfl (stC n ys) (stC 0 ws0) hs9 rfl H5 (by decide) (stC_one n ys) ?_
              intro w7 g7 o7
              rw [putAt_all (by rw [hs9]; rfl)] at g7
              have HF : Hid (w7.heap[wr.heap.size]? = some (.cells #[.int .i64 op, .int .i64 A] 35 (0, 0)) ∧ w7.heap[wr.heap.size + 1]? = some (stO n ys) ∧ Below wr.heap.size wr w7 ∧ wr.heap.size ≤ wr.heap.size ∧ wr.heap.size ≤ wr.heap.size + 1) := Lib.hid ⟨(o7.far _ (by omega)).trans HG6.out.1, g7, (HT.out.1.trans (HG6.out.2.below (by omega))).trans (o7.below (by omega)), by omega, by omega⟩
              refine hK.out _ _ HF.out.2.2.1 (fun hHeld => ?_)
              clear hK K g7 o7 HG6 H5
              refine wpAnyH_done (by kernel_rfl) ?_ _
              go_wp2_with fail
              go_meet
              exact ⟨_, _, rfl, rfl, HF⟩
            · go_simp
              refine hK.out _ _ (below_allocD wr _) (fun hHeld => ?_)
              clear hK K
              refine wpAnyH_ready (rs := [16]) (by kernel_rfl) (by simp) ?_
              refine AllReadyH.cons rfl (fun K hK => ?_) AllReadyH.nil
              go_simp
              have HT := Lib.hid (two_new wr (.cells #[Value.int IntKind.i64 0, Value.int IntKind.u64 0, Value.int IntKind.u64 0, Value.int IntKind.u64 0, Value.int IntKind.u64 0, Value.int IntKind.u64 0, Value.int IntKind.u64 0, Value.int IntKind.u64 0, Value.int IntKind.u64 0] 67) (.cells #[Value.int IntKind.i64 0, Value.int IntKind.i64 0] 35))
              generalize ((wr.alloc (.cells #[Value.int IntKind.i64 0, Value.int IntKind.u64 0, Value.int IntKind.u64 0, Value.int IntKind.u64 0, Value.int IntKind.u64 0, Value.int IntKind.u64 0, Value.int IntKind.u64 0, Value.int IntKind.u64 0, Value.int IntKind.u64 0] 67)).alloc (.cells #[Value.int IntKind.i64 0, Value.int IntKind.i64 0] 35)).drew = w5 at *
              refine hK.out _ _ HT.out.1 (fun hHeld => ?_)
              clear hK K
              refine wpAnyH_ready (rs := [18]) (by kernel_rfl) (by simp) ?_
              refine AllReadyH.cons rfl (fun K hK => ?_) AllReadyH.nil
              refine stepR_storeW info35s (.tmp 4) (.tmp 28) rfl (wr.heap.size + 1) 0 rfl [.int .i64 op, .int .i64 A] [.int .i64 0, .int .i64 0] rfl rfl HT.out.2.2 (by decide) (by intro u hu; simp at hu; rcases hu with rfl | rfl <;> rfl) ?_
              intro w6 g6 o6
              rw [putAt_all (by rfl)] at g6
              have HG6 := Lib.hid (And.intro g6 o6)
              refine hK.out _ _ (HT.out.1.trans (o6.below (by omega))) (fun hHeld => ?_)
              clear hK K g6 o6
              refine wpAnyH_ready (rs := [19]) (by kernel_rfl) (by simp) ?_
              refine AllReadyH.cons rfl (fun K hK => ?_) AllReadyH.nil
              have H5 : w6.heap[wr.heap.size]? = some (.cells (stC 0 ws0).toArray 67 (0, 0)) := (HG6.out.2.far _ (by omega)).trans HT.out.2.1
              refine stepR_storeW info67s (.tmp 5) (.tmp 36) rfl (wr.heap.size) 0 rfl (stC n ys) (stC 0 ws0) hs9 rfl H5 (by decide) (stC_one n ys) ?_
              intro w7 g7 o7
              rw [putAt_all (by rw [hs9]; rfl)] at g7
              have HF : Hid (w7.heap[wr.heap.size + 1]? = some (.cells #[.int .i64 op, .int .i64 A] 35 (0, 0)) ∧ w7.heap[wr.heap.size]? = some (stO n ys) ∧ Below wr.heap.size wr w7 ∧ wr.heap.size ≤ wr.heap.size + 1 ∧ wr.heap.size ≤ wr.heap.size) := Lib.hid ⟨(o7.far _ (by omega)).trans HG6.out.1, g7, (HT.out.1.trans (HG6.out.2.below (by omega))).trans (o7.below (by omega)), by omega, by omega⟩
              refine hK.out _ _ HF.out.2.2.1 (fun hHeld => ?_)
              clear hK K g7 o7 HG6 H5
              refine wpAnyH_done (by kernel_rfl) ?_ _
              go_wp2_with fail
              go_meet
              exact ⟨_, _, rfl, rfl, HF⟩
          case rest =>
            obtain ⟨bx, St, rfl, rfl, HF⟩ := hcut
            have hBw : B ≤ wr.heap.size := HSF.out.1.wk.lt.2
            have hE := HSF.out.1.efp (HSF.out.2.2.2.2.2.2.2.low (HF.out.2.2.1.mono hBw)) HF.out.2.2.1 HF.out.2.1 HSF.out.2.2.2.2.1 (by have := HF.out.2.2.2.2; omega) hN
            have HRB : Hid (wc.rangeAt bx 0 [.int .i64 op, .int .i64 A]) := Lib.hid (rangeV_of (cs := [.int .i64 op, .int .i64 A]) HF.out.1)
            have HBC : Hid (Below B w wc) := Lib.hid (HSF.out.2.2.1.trans (HF.out.2.2.1.mono hBw))
            have HKG := Lib.hid hkg
            have HM := Lib.hid HP.out.hm
            have hat1 : (at_ : Int) + 1 < 20000 := by have := HP.out.hn; omega
            have hop := HSF.out.2.2.2.2.2.2.1
            clear c8 c9 HRI HRS lW lI lg hatlI hatiI hs9 hi1 hi2 q1 q2 hkg hBw
            by_cases h18 : op = 18
            · subst h18
              have KE := Lib.hid (eff18 A hE)
              clear hE hop
              go_wp2_with (first | (refine wpList_load_mid rfl 35 (.tmp 4) rfl bx 0 rfl [.int .i64 18, .int .i64 A] _ HRB.out Tryd.underlying35 rfl (by exact info35s) ?_) | fail)
              refine KE.out.mono ?_
              rintro r w4 ⟨hr, hm, hk⟩
              have b0 : w4.cell? ⟨bx, 0, none⟩ = some (.int .i64 18) := cell_at (hm.kept _ _ _ _ HF.out.1 (by unfold tsP; decide)) rfl
              have HB4 := Lib.hid (HBC.out.trans hm.low)
              rcases hr with ⟨rfl, hst⟩ | ⟨rfl, hst⟩
              · have HO := Lib.hid (so_ret HSF.out.1 HSF.out.2.1 HSF.out.2.2.2.1 HSF.out.2.2.2.2.2.1 hst ⟨n, HSF.out.2.2.2.2.1.st⟩ hk HB4.out)
                clear hst hk hm KE HSF HF
                go_wp2_with fail
                go_roundg gk
                case measure => exact HKG.out
                case rel => exact HO.out
              · have HR := Lib.hid (safe_not (HSF.out.1.wv.fall HSF.out.2.2.2.1 HSF.out.2.2.2.2.2.1 (fun s' g1 _ => by rw [hst] at g1; cases g1)) HB4.out)
                clear hst hk hm KE HSF HF b0
                go_wp2_with fail
                simp only [Exit.noGoto]
                go_ret
                exact HR.out
            · have KE := Lib.hid (effC op A hE ⟨hop.1.1, by omega⟩ hop.2.1 hop.2.2)
              clear hE
              go_wp2_with (first | (refine wpList_load_mid rfl 35 (.tmp 4) rfl bx 0 rfl [.int .i64 op, .int .i64 A] _ HRB.out Tryd.underlying35 rfl (by exact info35s) ?_) | fail)
              refine KE.out.mono ?_
              intro r w4 hQ
              rcases eff_r hQ with rfl | rfl
              · obtain ⟨x1, S1, L1, s', n', ys', hsr, hrp, hst, hm, _⟩ := so_eff HSF.out.1 HSF.out.2.1 HSF.out.2.2.2.1 HSF.out.2.2.2.2.2.1 hQ
                have hbx := hm.kept _ _ _ _ HF.out.1 (by unfold tsP; decide)
                have b0 : w4.cell? ⟨bx, 0, none⟩ = some (.int .i64 op) := cell_at hbx rfl
                have b1 : w4.cell? ⟨bx, 1, none⟩ = some (.int .i64 A) := cell_at hbx rfl
                have HSR := Lib.hid hsr
                have HRP := Lib.hid hrp
                have HST : Hid (w4.rangeAt St 0 (stC n' ys')) := Lib.hid (rangeV_of hst)
                have hs9' : (stC n' ys').length = 9 := by rw [stC_len, hrp.ok.1]
                have HBW := Lib.hid (HBC.out.trans hm.low)
                have HKS := Lib.hid hst
                clear hQ KE HSF HF hsr hrp hst hm hbx HRB HBC
                by_cases h15 : op = 15
                · subst h15
                  clear hop h18 hat1
                  have KR := Lib.hid (reachC A n' ys' w4 HSR.out.wk HRP.out.ok HSR.out.tv.ws)
                  go_wp2_with (first | (refine wpList_load_mid rfl 67 (.tmp 5) rfl St 0 rfl (stC n' ys') _ HST.out Tryd.underlying67 rfl (by rw [hs9']; exact info67s) ?_) | fail)
                  refine KR.out.mono ?_
                  rintro r w6 ⟨rfl, hk, hm⟩
                  have HD := Lib.hid (so_reach HSR.out HKG.out HRP.out HM.out (by simp [succZ]) (by intro p hp; simp [succZ] at hp; exact .inl hp) hk (HBW.out.trans hm.low))
                  clear KR hk hm
                  generalize (reachM x1.pl A n' ys').2.2 = is at *
                  generalize (reachM x1.pl A n' ys').2.1 = ch at *
                  cases is with
                  | false =>
                    have HR := Lib.hid (HD.out.1 rfl)
                    clear HD
                    go_wp2_with fail
                    simp only [Exit.noGoto]
                    go_ret
                    exact HR.out
                  | true =>
                    cases ch with
                    | false =>
                      have HO := Lib.hid (HD.out.2.1 rfl rfl)
                      clear HD
                      go_wp2_with fail
                      go_roundg gk
                      case measure => exact HKG.out
                      case rel => exact HO.out
                    | true =>
                      obtain ⟨k', hk', hsi⟩ := HD.out.2.2 rfl rfl
                      have HI := Lib.hid hsi
                      clear HD hsi
                      go_wp2_with fail
                      go_roundg k'
                      case measure => exact hk'
                      case rel => exact HI.out
                · by_cases h16 : op = 16
                  · subst h16
                    clear hop h18 h15
                    have KL := Lib.hid (laterC A n' ys' w4 HSR.out.wk HRP.out.ok HSR.out.tv.ws (by have h1 := HSR.out.left; have h2 := HSR.out.bd; unfold leftN at h1; omega))
                    have HSC : Hid (succZ at_ (16, A) = [A, (at_ : Int) + 1]) := Lib.hid rfl
                    go_wp2_with (first | (refine wpList_load_mid rfl 67 (.tmp 5) rfl St 0 rfl (stC n' ys') _ HST.out Tryd.underlying67 rfl (by rw [hs9']; exact info67s) ?_) | fail)
                    refine KL.out.mono ?_
                    rintro r w5 ⟨rfl, R', hk, hm⟩
                    have HBW2 := Lib.hid (HBW.out.trans hm.low)
                    have HST2 : Hid (w5.rangeAt St 0 (stC n' ys')) := Lib.hid (rangeV_of (hm.kept _ _ _ _ HKS.out (by unfold ts3; decide)))
                    have HLF := Lib.hid (fun hc => safe_not (HSR.out.bad HRP.out HM.out (q := A) (by rw [HSC.out]; exact List.mem_cons_self) hc) HBW2.out)
                    have HLT := Lib.hid (fun hc => HSR.out.later HRP.out HM.out (q := A) (by rw [HSC.out]; exact List.mem_cons_self) hc hk)
                    clear KL hk hm HKS
                    cases hc : (reachM x1.pl A n' ys').2.2 with
                    | false =>
                      have HR := Lib.hid (HLF.out hc)
                      clear HLF HLT hc
                      go_wp2_with fail
                      simp only [Exit.noGoto]
                      go_ret
                      exact HR.out
                    | true =>
                      obtain ⟨x2, T2, hsr2, _⟩ := HLT.out hc
                      have HSR2 := Lib.hid hsr2
                      clear HLF HLT hc hsr2
                      have KR := Lib.hid (reachC ((at_ : Int) + 1) n' ys' w5 HSR2.out.wk HRP.out.ok HSR2.out.tv.ws)
                      go_wp2_with (first | (refine wpList_load_mid rfl 67 (.tmp 5) rfl St 0 rfl (stC n' ys') _ HST2.out Tryd.underlying67 rfl (by rw [hs9']; exact info67s) ?_) | fail)
                      refine KR.out.mono ?_
                      rintro r w6 ⟨rfl, hk, hm⟩
                      have HD := Lib.hid (so_reach HSR2.out HKG.out HRP.out HM.out (by rw [HSC.out]; exact List.mem_cons_of_mem _ (List.mem_singleton.2 rfl)) (by intro p hp; rw [HSC.out] at hp; exact (List.mem_cons.1 hp).elim (fun e => .inr (by rw [e]; exact List.mem_singleton.2 rfl)) (fun e => .inl (List.mem_singleton.1 e))) hk (HBW2.out.trans hm.low))
                      clear KR hk hm
                      generalize (reachM x2.pl ((at_ : Int) + 1) n' ys').2.2 = is at *
                      generalize (reachM x2.pl ((at_ : Int) + 1) n' ys').2.1 = ch at *
                      cases is with
                      | false =>
                        have HR := Lib.hid (HD.out.1 rfl)
                        clear HD
                        go_wp2_with fail
                        simp only [Exit.noGoto]
                        go_ret
                        exact HR.out
                      | true =>
                        cases ch with
                        | false =>
                          have HO := Lib.hid (HD.out.2.1 rfl rfl)
                          clear HD
                          go_wp2_with fail
                          go_roundg gk
                          case measure => exact HKG.out
                          case rel => exact HO.out
                        | true =>
                          obtain ⟨k', hk', hsi⟩ := HD.out.2.2 rfl rfl
                          have HI := Lib.hid hsi
                          clear HD hsi
                          go_wp2_with fail
                          go_roundg k'
                          case measure => exact hk'
                          case rel => exact HI.out
                  · have e18 : (op == 18) = false := by simpa using h18
                    have e15 : (op == 15) = false := by simpa using h15
                    have e16 : (op == 16) = false := by simpa using h16
                    have hsc : succZ at_ (op, A) = [(at_ : Int) + 1] := by unfold succZ; rw [if_neg h18, if_neg h15, if_neg h16]
                    have HSC := Lib.hid hsc
                    clear hop hsc h18 h15 h16 b1
                    have KR := Lib.hid (reachC ((at_ : Int) + 1) n' ys' w4 HSR.out.wk HRP.out.ok HSR.out.tv.ws)
                    go_wp2_with (first | (refine wpList_load_mid rfl 67 (.tmp 5) rfl St 0 rfl (stC n' ys') _ HST.out Tryd.underlying67 rfl (by rw [hs9']; exact info67s) ?_) | fail)
                    refine KR.out.mono ?_
                    rintro r w6 ⟨rfl, hk, hm⟩
                    have HD := Lib.hid (so_reach HSR.out HKG.out HRP.out HM.out (by rw [HSC.out]; exact List.mem_singleton.2 rfl) (by intro p hp; rw [HSC.out] at hp; exact .inl (List.mem_singleton.1 hp)) hk (HBW.out.trans hm.low))
                    clear KR hk hm
                    generalize (reachM x1.pl ((at_ : Int) + 1) n' ys').2.2 = is at *
                    generalize (reachM x1.pl ((at_ : Int) + 1) n' ys').2.1 = ch at *
                    cases is with
                    | false =>
                      have HR := Lib.hid (HD.out.1 rfl)
                      clear HD
                      go_wp2_with fail
                      simp only [Exit.noGoto]
                      go_ret
                      exact HR.out
                    | true =>
                      cases ch with
                      | false =>
                        have HO := Lib.hid (HD.out.2.1 rfl rfl)
                        clear HD
                        go_wp2_with fail
                        go_roundg gk
                        case measure => exact HKG.out
                        case rel => exact HO.out
                      | true =>
                        obtain ⟨k', hk', hsi⟩ := HD.out.2.2 rfl rfl
                        have HI := Lib.hid hsi
                        clear HD hsi
                        go_wp2_with fail
                        go_roundg k'
                        case measure => exact hk'
                        case rel => exact HI.out
              · obtain ⟨hno, hm⟩ := so_no HSF.out.1 HSF.out.2.2.2.1 HSF.out.2.2.2.2.2.1 hQ
                have HR := Lib.hid (safe_not hno (HBC.out.trans hm.low))
                clear hQ hno hm KE HSF HF hop
                go_wp2_with fail
                simp only [Exit.noGoto]
                go_ret
                exact HR.out
end Go.Proofs.YtilmidjkjgeoeaaDoor
