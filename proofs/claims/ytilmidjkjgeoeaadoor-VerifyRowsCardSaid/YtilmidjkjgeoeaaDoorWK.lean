/- VerifyRows: the walk. Conditions: the table of signs lies as the program lays it. -/
import Derived.Test.YtilmidjkjgeoeaaDoorWJ
namespace Go.Proofs.YtilmidjkjgeoeaaDoor
open Go.RowKit Go.MapKept
set_option maxRecDepth 100000
set_option linter.unusedVariables false
set_option linter.unusedSimpArgs false
set_option maxHeartbeats 1600000 in
theorem rows_walk (n : Nat) (extra result : Bool) (w : World) (hn : n < 256) (ht : Tab w) : Calls Tryd.prog 5 #[.int .u8 n, .bool extra, .bool result] w (Says true w) := by
  have KH := Lib.hid (head_true w ht)
  have HT := Lib.hid ht
  obtain ⟨i0, hi, hz0, hz1, hz2⟩ := infoV info35a
  clear ht
  go_enter Tryd.func5, Tryd.ntmps5
  go_wp2_with fail
  refine KH.out.mono ?_
  rintro r w1 ⟨rfl, hb1⟩
  have HB1 := Lib.hid hb1
  have H1 := Lib.hid (RowsS.start w1)
  unfold rwO at H1
  clear KH hb1
  go_upto_region 3 with fail
  generalize w1.alloc (.cells #[.string ⟨#[102]⟩, .slice none 0 0, .int .i64 0, .int .i64 0, .slice none 0 0] 30) = w2 at *
  go_wp2_with fail
  go_loopw [9] (fun i wr => ∃ (k : Nat) (V : Value), i = .int .i64 k ∧ k ≤ n ∧ Hid (RowsS w1 w1.heap.size 0 ((List.range k).map (fun i : Nat => ((2, (i : Int)) : Ins))) V wr)) (fun i _ => n - (intOf i).toNat)
  case atStart => exact ⟨0, .slice none 0 0, rfl, by omega, H1⟩
  case round =>
    obtain ⟨k, V, rfl, hk, HQ⟩ := hrel
    by_cases hlt : k < n
    · have hkI : (k : Int) < (n : Int) := by omega
      have HL : Hid (((List.range k).map (fun i : Nat => ((2, (i : Int)) : Ins))).length = k) := Lib.hid (by simp)
      obtain ⟨AV, cV, eV, _, _⟩ := own_slice HQ.out.own
      rw [HL.out] at eV
      subst eV
      have c4 := HQ.out.cells.1
      have HA := Lib.hid (HQ.out.ahead (k := 2) (a := (k : Int)))
      have HP := Lib.hid (fun V' w3 ho hg => HQ.out.app (k := 2) (a := (k : Int)) (V' := V') (w3 := w3) ho hg)
      have HO : Hid ((wr.alloc (.cells #[.int .i64 (2), .int .i64 ((k : Int))] 35)).ownsRow w1.heap.size 35 2 (.slice AV k cV) k (insV ((List.range k).map (fun i : Nat => ((2, (i : Int)) : Ins))))) := by
        have := HA.out.1
        rw [HL.out] at this
        exact this
      go_wp2_with (at_builtin; refine wpListR_append rfl (.tmp 21) (.tmp 24) 28 rfl w1.heap.size 35 i0 _ 2 16 Tryd.underlying28 hi hz0 hz1 hz2 rfl (by omega) _ k (insV ((List.range k).map (fun i : Nat => ((2, (i : Int)) : Ins)))) rfl HO.out ⟨wr.heap.size, 0, none⟩ 1 1 [.int .i64 (2), .int .i64 ((k : Int))] rfl rfl HA.out.2.1 (by intro u hu; simp at hu; rcases hu with rfl | rfl <;> rfl) (by unfold maxLen; omega) (by omega) HA.out.2.2 ?_; intro V' w3 ho hg _; obtain ⟨A3, d3, e3, _, _⟩ := own_slice ho; subst e3; have HN := Lib.hid (HP.out _ _ (by rw [HL.out]; exact ho) hg); obtain ⟨s1, s2⟩ := rw_cells HN.out.1; clear ho hg)
      have HN2 : Hid (RowsS w1 w1.heap.size 0 ((List.range (k + 1)).map (fun i : Nat => ((2, (i : Int)) : Ins))) (.slice A3 (k + 1) d3) (w3.setCell ⟨w1.heap.size, 4, none⟩ (.slice A3 (k + 1) d3))) := by
        have := HN.out.2
        rw [List.range_succ, List.map_append]
        exact this
      clear HN HP HO HA
      go_wp2_with fail
      go_round
      case measure => simp [intOf]; omega
      case rel => exact ⟨k + 1, _, by go_num, by omega, HN2⟩
    · obtain rfl : n = k := by omega
      have HQ2 : Hid (RowsS w1 w1.heap.size 0 ((List.range n).map (fun i : Nat => ((2, (i : Int)) : Ins)) ++ List.replicate 0 (17, 0)) V wr) := Lib.hid (by have := HQ.out; simpa using this)
      clear HQ hlt
      go_wp2_with fail
      go_loopw [10] (fun i wr => ∃ (k : Nat) (V : Value), i = .int .i64 k ∧ k ≤ n ∧ Hid (RowsS w1 w1.heap.size 0 ((List.range n).map (fun i : Nat => ((2, (i : Int)) : Ins)) ++ List.replicate k (17, 0)) V wr)) (fun i _ => n - (intOf i).toNat)
      case atStart => exact ⟨0, _, rfl, by omega, HQ2⟩
      case round =>
        clear HQ2
        obtain ⟨k, V, rfl, hk, HQ⟩ := hrel
        by_cases hlt : k < n
        · have hkI : (k : Int) < (n : Int) := by omega
          have HL : Hid (((List.range n).map (fun i : Nat => ((2, (i : Int)) : Ins)) ++ List.replicate k (17, 0)).length = n + k) := Lib.hid (by simp)
          obtain ⟨AV, cV, eV, _, _⟩ := own_slice HQ.out.own
          rw [HL.out] at eV
          subst eV
          have c4 := HQ.out.cells.1
          have HA := Lib.hid (HQ.out.ahead (k := 17) (a := 0))
          have HP := Lib.hid (fun V' w3 ho hg => HQ.out.app (k := 17) (a := 0) (V' := V') (w3 := w3) ho hg)
          have HO : Hid ((wr.alloc (.cells #[.int .i64 (17), .int .i64 (0)] 35)).ownsRow w1.heap.size 35 2 (.slice AV (n + k) cV) (n + k) (insV ((List.range n).map (fun i : Nat => ((2, (i : Int)) : Ins)) ++ List.replicate k (17, 0)))) := by
            have := HA.out.1
            rw [HL.out] at this
            exact this
          go_upto_region 9 with (at_builtin; refine wpListR_append rfl (.tmp 34) (.tmp 36) 28 rfl w1.heap.size 35 i0 _ 2 16 Tryd.underlying28 hi hz0 hz1 hz2 rfl (by omega) _ (n + k) (insV ((List.range n).map (fun i : Nat => ((2, (i : Int)) : Ins)) ++ List.replicate k (17, 0))) rfl HO.out ⟨wr.heap.size, 0, none⟩ 1 1 [.int .i64 (17), .int .i64 (0)] rfl rfl HA.out.2.1 (by intro u hu; simp at hu; rcases hu with rfl | rfl <;> rfl) (by unfold maxLen; omega) (by omega) HA.out.2.2 ?_; intro V' w3 ho hg _; obtain ⟨A3, d3, e3, _, _⟩ := own_slice ho; subst e3; have HN := Lib.hid (HP.out _ _ (by rw [HL.out]; exact ho) hg); obtain ⟨s1, s2⟩ := rw_cells HN.out.1; clear ho hg)
          have HN2 : Hid (RowsS w1 w1.heap.size 0 ((List.range n).map (fun i : Nat => ((2, (i : Int)) : Ins)) ++ List.replicate (k + 1) (17, 0)) (.slice A3 (n + k + 1) d3) (w3.setCell ⟨w1.heap.size, 4, none⟩ (.slice A3 (n + k + 1) d3))) := by
            have := HN.out.2
            rw [List.replicate_succ', ← List.append_assoc]
            exact this
          clear HN HP HO HA
          go_wp2_with fail
          go_round
          case measure => simp [intOf]; omega
          case rel => exact ⟨k + 1, _, by go_num, by omega, HN2⟩
        · obtain rfl : n = k := by omega
          have HQ' := Lib.hid HQ.out
          clear hlt
          cases extra with
          | false =>
            cases result with
            | false =>
              have HK : Hid (RowsS w1 w1.heap.size 0 (rowsK n false) V wr) := Lib.hid (by have := HQ.out; unfold rowsK; simpa using this)
              clear HQ
              go_upto_region 13 with fail
              generalize wr = w4 at *
              generalize V = V4 at *
              go_upto_region 15 with fail
              have HM := HK
              generalize w4 = w6 at *
              obtain ⟨Ln, hLn⟩ : ∃ Ln, (rowsK n false).length = Ln := ⟨_, rfl⟩
              have hLn2 : Ln ≤ 600 := by
                have := rows_len n false
                rw [List.length_append, hLn] at this
                omega
              have HL := Lib.hid hLn
              clear hLn HK
              obtain ⟨AV, cV, eV, _, _⟩ := own_slice HM.out.own
              rw [HL.out] at eV
              subst eV
              have c4 := HM.out.cells.1
              have HA := Lib.hid (HM.out.ahead (k := 18) (a := 0))
              have HP := Lib.hid (fun V' w3 ho hg => HM.out.app (k := 18) (a := 0) (V' := V') (w3 := w3) ho hg)
              have HO : Hid ((w6.alloc (.cells #[.int .i64 (18), .int .i64 (0)] 35)).ownsRow w1.heap.size 35 2 (.slice AV (Ln) cV) (Ln) (insV (rowsK n false))) := by
                have := HA.out.1
                rw [HL.out] at this
                exact this
              go_upto_region 16 with (at_builtin; refine wpListR_append rfl (.tmp 49) (.tmp 51) 28 rfl w1.heap.size 35 i0 _ 2 16 Tryd.underlying28 hi hz0 hz1 hz2 rfl (by omega) _ (Ln) (insV (rowsK n false)) rfl HO.out ⟨w6.heap.size, 0, none⟩ 1 1 [.int .i64 (18), .int .i64 (0)] rfl rfl HA.out.2.1 (by intro u hu; simp at hu; rcases hu with rfl | rfl <;> rfl) (by unfold maxLen; omega) (by omega) HA.out.2.2 ?_; intro V' w3 ho hg _; obtain ⟨A3, d3, e3, _, _⟩ := own_slice ho; subst e3; have HN := Lib.hid (HP.out _ _ (by rw [HL.out]; exact ho) hg); obtain ⟨s1, s2⟩ := rw_cells HN.out.1; clear ho hg)
              have HF : Hid (RowsS w1 w1.heap.size 0 (rowsK n false ++ [(18, 0)]) (.slice A3 (Ln + 1) d3) (w3.setCell ⟨w1.heap.size, 4, none⟩ (.slice A3 (Ln + 1) d3))) := Lib.hid HN.out.2
              generalize w3.setCell ⟨w1.heap.size, 4, none⟩ (.slice A3 (Ln + 1) d3) = w7 at *
              clear HN HP HO HA c4 s1 s2 HM
              have HR : Hid (w7.rangeAt w1.heap.size 0 [.string ⟨#[102]⟩, .slice none 0 0, .int .i64 0, .int .i64 0, .slice A3 (Ln + 1) d3]) := Lib.hid (rangeV_of (cs := [.string ⟨#[102]⟩, .slice none 0 0, .int .i64 0, .int .i64 0, .slice A3 (Ln + 1) d3]) HF.out.cell)
              have H8 := Lib.hid (And.intro (heap_alloc_new w7 (.cells #[.string ⟨#[102]⟩, .slice none 0 0, .int .i64 0, .int .i64 0, .slice A3 (Ln + 1) d3] 30)) (And.intro (below_alloc w7 (.cells #[.string ⟨#[102]⟩, .slice none 0 0, .int .i64 0, .int .i64 0, .slice A3 (Ln + 1) d3] 30)) (size_al w7 (.cells #[.string ⟨#[102]⟩, .slice none 0 0, .int .i64 0, .int .i64 0, .slice A3 (Ln + 1) d3] 30))))
              go_wp2_with (first | (refine wpList_load_mid rfl 30 (.tmp 8) rfl w1.heap.size 0 rfl [.string ⟨#[102]⟩, .slice none 0 0, .int .i64 0, .int .i64 0, .slice A3 (Ln + 1) d3] _ HR.out Tryd.underlying30 rfl (by exact info30s) ?_) | fail)
              generalize w7.alloc (.cells #[.string ⟨#[102]⟩, .slice none 0 0, .int .i64 0, .int .i64 0, .slice A3 (Ln + 1) d3] 30) = w8 at *
              have hs8 := H8.out.2.2
              have hrow : RowL w8 w8.heap.size (rowsK n false ++ [(18, 0)]).length (insV (rowsK n false ++ [(18, 0)])) (.slice A3 (Ln + 1) d3) := ((own_row HF.out.own (by simp)).below H8.out.2.1).more (by omega)
              have hm8 : ModV w8 w8.heap.size (rM n false 0) (.agg #[.slice (some ⟨w7.heap.size, 0, none⟩) 1 1, .slice none 0 0]) :=
                ⟨_, _, rfl, codes_of (l := [rC n false 0]) (vs := coC (rC n false 0) (.slice none 0 0) (.slice A3 (Ln + 1) d3) ++ []) H8.out.1 (by omega) (Nat.le_refl _) (by decide) (.cons (RowL.nothing _ _) hrow .nil), GridV.nothing _ _⟩
              have hb8 : Below w.heap.size w w8 := (HB1.out.trans (HF.out.low.mono HB1.out.size)).trans (H8.out.2.1.mono (by have h1 := HF.out.low.size; have h2 := HB1.out.size; omega))
              have K := Lib.hid (checkC _ _ w8 hm8 (rFit false false hn) (HT.out.below hb8 HT.out.1))
              have HB8 := Lib.hid hb8
              clear hs8 hrow hm8 hb8 HR HF
              refine K.out.mono ?_
              rintro r w9 ⟨rfl, hb9⟩
              rw [show checkM (rM n false 0) = 0 from rCheck false false hn]
              have HB9 := Lib.hid (HB8.out.trans (hb9.mono HB8.out.size))
              clear hb9 K
              go_wp2_with fail
              go_ret
              exact ⟨rfl, HB9.out⟩
            | true =>
              have HK : Hid (RowsS w1 w1.heap.size 0 (rowsK n false) V wr) := Lib.hid (by have := HQ.out; unfold rowsK; simpa using this)
              clear HQ
              go_upto_region 13 with fail
              generalize wr = w4 at *
              generalize V = V4 at *
              obtain ⟨t1, t2⟩ := HK.out.cell2
              go_upto_region 15 with fail
              have HM : Hid (RowsS w1 w1.heap.size 1 (rowsK n false) V4 (w4.setCell ⟨w1.heap.size, 2, none⟩ (.int .i64 1))) := Lib.hid HK.out.res
              generalize w4.setCell ⟨w1.heap.size, 2, none⟩ (.int .i64 1) = w6 at *
              clear t1 t2
              obtain ⟨Ln, hLn⟩ : ∃ Ln, (rowsK n false).length = Ln := ⟨_, rfl⟩
              have hLn2 : Ln ≤ 600 := by
                have := rows_len n false
                rw [List.length_append, hLn] at this
                omega
              have HL := Lib.hid hLn
              clear hLn HK
              obtain ⟨AV, cV, eV, _, _⟩ := own_slice HM.out.own
              rw [HL.out] at eV
              subst eV
              have c4 := HM.out.cells.1
              have HA := Lib.hid (HM.out.ahead (k := 18) (a := 0))
              have HP := Lib.hid (fun V' w3 ho hg => HM.out.app (k := 18) (a := 0) (V' := V') (w3 := w3) ho hg)
              have HO : Hid ((w6.alloc (.cells #[.int .i64 (18), .int .i64 (0)] 35)).ownsRow w1.heap.size 35 2 (.slice AV (Ln) cV) (Ln) (insV (rowsK n false))) := by
                have := HA.out.1
                rw [HL.out] at this
                exact this
              go_upto_region 16 with (at_builtin; refine wpListR_append rfl (.tmp 49) (.tmp 51) 28 rfl w1.heap.size 35 i0 _ 2 16 Tryd.underlying28 hi hz0 hz1 hz2 rfl (by omega) _ (Ln) (insV (rowsK n false)) rfl HO.out ⟨w6.heap.size, 0, none⟩ 1 1 [.int .i64 (18), .int .i64 (0)] rfl rfl HA.out.2.1 (by intro u hu; simp at hu; rcases hu with rfl | rfl <;> rfl) (by unfold maxLen; omega) (by omega) HA.out.2.2 ?_; intro V' w3 ho hg _; obtain ⟨A3, d3, e3, _, _⟩ := own_slice ho; subst e3; have HN := Lib.hid (HP.out _ _ (by rw [HL.out]; exact ho) hg); obtain ⟨s1, s2⟩ := rw_cells HN.out.1; clear ho hg)
              have HF : Hid (RowsS w1 w1.heap.size 1 (rowsK n false ++ [(18, 0)]) (.slice A3 (Ln + 1) d3) (w3.setCell ⟨w1.heap.size, 4, none⟩ (.slice A3 (Ln + 1) d3))) := Lib.hid HN.out.2
              generalize w3.setCell ⟨w1.heap.size, 4, none⟩ (.slice A3 (Ln + 1) d3) = w7 at *
              clear HN HP HO HA c4 s1 s2 HM
              have HR : Hid (w7.rangeAt w1.heap.size 0 [.string ⟨#[102]⟩, .slice none 0 0, .int .i64 1, .int .i64 0, .slice A3 (Ln + 1) d3]) := Lib.hid (rangeV_of (cs := [.string ⟨#[102]⟩, .slice none 0 0, .int .i64 1, .int .i64 0, .slice A3 (Ln + 1) d3]) HF.out.cell)
              have H8 := Lib.hid (And.intro (heap_alloc_new w7 (.cells #[.string ⟨#[102]⟩, .slice none 0 0, .int .i64 1, .int .i64 0, .slice A3 (Ln + 1) d3] 30)) (And.intro (below_alloc w7 (.cells #[.string ⟨#[102]⟩, .slice none 0 0, .int .i64 1, .int .i64 0, .slice A3 (Ln + 1) d3] 30)) (size_al w7 (.cells #[.string ⟨#[102]⟩, .slice none 0 0, .int .i64 1, .int .i64 0, .slice A3 (Ln + 1) d3] 30))))
              go_wp2_with (first | (refine wpList_load_mid rfl 30 (.tmp 8) rfl w1.heap.size 0 rfl [.string ⟨#[102]⟩, .slice none 0 0, .int .i64 1, .int .i64 0, .slice A3 (Ln + 1) d3] _ HR.out Tryd.underlying30 rfl (by exact info30s) ?_) | fail)
              generalize w7.alloc (.cells #[.string ⟨#[102]⟩, .slice none 0 0, .int .i64 1, .int .i64 0, .slice A3 (Ln + 1) d3] 30) = w8 at *
              have hs8 := H8.out.2.2
              have hrow : RowL w8 w8.heap.size (rowsK n false ++ [(18, 0)]).length (insV (rowsK n false ++ [(18, 0)])) (.slice A3 (Ln + 1) d3) := ((own_row HF.out.own (by simp)).below H8.out.2.1).more (by omega)
              have hm8 : ModV w8 w8.heap.size (rM n false 1) (.agg #[.slice (some ⟨w7.heap.size, 0, none⟩) 1 1, .slice none 0 0]) :=
                ⟨_, _, rfl, codes_of (l := [rC n false 1]) (vs := coC (rC n false 1) (.slice none 0 0) (.slice A3 (Ln + 1) d3) ++ []) H8.out.1 (by omega) (Nat.le_refl _) (by decide) (.cons (RowL.nothing _ _) hrow .nil), GridV.nothing _ _⟩
              have hb8 : Below w.heap.size w w8 := (HB1.out.trans (HF.out.low.mono HB1.out.size)).trans (H8.out.2.1.mono (by have h1 := HF.out.low.size; have h2 := HB1.out.size; omega))
              have K := Lib.hid (checkC _ _ w8 hm8 (rFit false true hn) (HT.out.below hb8 HT.out.1))
              have HB8 := Lib.hid hb8
              clear hs8 hrow hm8 hb8 HR HF
              refine K.out.mono ?_
              rintro r w9 ⟨rfl, hb9⟩
              rw [show checkM (rM n false 1) = 131 from rCheck false true hn]
              have HB9 := Lib.hid (HB8.out.trans (hb9.mono HB8.out.size))
              clear hb9 K
              go_wp2_with fail
              go_ret
              exact ⟨rfl, HB9.out⟩
          | true =>
            cases result with
            | false =>
              have HL : Hid (((List.range n).map (fun i : Nat => ((2, (i : Int)) : Ins)) ++ List.replicate n (17, 0)).length = n + n) := Lib.hid (by simp)
              obtain ⟨AV, cV, eV, _, _⟩ := own_slice HQ.out.own
              rw [HL.out] at eV
              subst eV
              have c4 := HQ.out.cells.1
              have HA := Lib.hid (HQ.out.ahead (k := 2) (a := 0))
              have HP := Lib.hid (fun V' w3 ho hg => HQ.out.app (k := 2) (a := 0) (V' := V') (w3 := w3) ho hg)
              have HO : Hid ((wr.alloc (.cells #[.int .i64 (2), .int .i64 (0)] 35)).ownsRow w1.heap.size 35 2 (.slice AV (n + n) cV) (n + n) (insV ((List.range n).map (fun i : Nat => ((2, (i : Int)) : Ins)) ++ List.replicate n (17, 0)))) := by
                have := HA.out.1
                rw [HL.out] at this
                exact this
              go_upto_region 13 with (at_builtin; refine wpListR_append rfl (.tmp 41) (.tmp 43) 28 rfl w1.heap.size 35 i0 _ 2 16 Tryd.underlying28 hi hz0 hz1 hz2 rfl (by omega) _ (n + n) (insV ((List.range n).map (fun i : Nat => ((2, (i : Int)) : Ins)) ++ List.replicate n (17, 0))) rfl HO.out ⟨wr.heap.size, 0, none⟩ 1 1 [.int .i64 (2), .int .i64 (0)] rfl rfl HA.out.2.1 (by intro u hu; simp at hu; rcases hu with rfl | rfl <;> rfl) (by unfold maxLen; omega) (by omega) HA.out.2.2 ?_; intro V' w3 ho hg _; obtain ⟨A3, d3, e3, _, _⟩ := own_slice ho; subst e3; have HN := Lib.hid (HP.out _ _ (by rw [HL.out]; exact ho) hg); obtain ⟨s1, s2⟩ := rw_cells HN.out.1; clear ho hg)
              have HK : Hid (RowsS w1 w1.heap.size 0 (rowsK n true) (.slice A3 (n + n + 1) d3) (w3.setCell ⟨w1.heap.size, 4, none⟩ (.slice A3 (n + n + 1) d3))) := Lib.hid HN.out.2
              generalize w3.setCell ⟨w1.heap.size, 4, none⟩ (.slice A3 (n + n + 1) d3) = w4 at *
              generalize Value.slice A3 (n + n + 1) d3 = V4 at *
              clear HN HP HO HA HL c4 s1 s2
              go_upto_region 15 with fail
              have HM := HK
              generalize w4 = w6 at *
              obtain ⟨Ln, hLn⟩ : ∃ Ln, (rowsK n true).length = Ln := ⟨_, rfl⟩
              have hLn2 : Ln ≤ 600 := by
                have := rows_len n true
                rw [List.length_append, hLn] at this
                omega
              have HL := Lib.hid hLn
              clear hLn HK
              obtain ⟨AV, cV, eV, _, _⟩ := own_slice HM.out.own
              rw [HL.out] at eV
              subst eV
              have c4 := HM.out.cells.1
              have HA := Lib.hid (HM.out.ahead (k := 18) (a := 0))
              have HP := Lib.hid (fun V' w3 ho hg => HM.out.app (k := 18) (a := 0) (V' := V') (w3 := w3) ho hg)
              have HO : Hid ((w6.alloc (.cells #[.int .i64 (18), .int .i64 (0)] 35)).ownsRow w1.heap.size 35 2 (.slice AV (Ln) cV) (Ln) (insV (rowsK n true))) := by
                have := HA.out.1
                rw [HL.out] at this
                exact this
              go_upto_region 16 with (at_builtin; refine wpListR_append rfl (.tmp 49) (.tmp 51) 28 rfl w1.heap.size 35 i0 _ 2 16 Tryd.underlying28 hi hz0 hz1 hz2 rfl (by omega) _ (Ln) (insV (rowsK n true)) rfl HO.out ⟨w6.heap.size, 0, none⟩ 1 1 [.int .i64 (18), .int .i64 (0)] rfl rfl HA.out.2.1 (by intro u hu; simp at hu; rcases hu with rfl | rfl <;> rfl) (by unfold maxLen; omega) (by omega) HA.out.2.2 ?_; intro V' w3 ho hg _; obtain ⟨A3, d3, e3, _, _⟩ := own_slice ho; subst e3; have HN := Lib.hid (HP.out _ _ (by rw [HL.out]; exact ho) hg); obtain ⟨s1, s2⟩ := rw_cells HN.out.1; clear ho hg)
              have HF : Hid (RowsS w1 w1.heap.size 0 (rowsK n true ++ [(18, 0)]) (.slice A3 (Ln + 1) d3) (w3.setCell ⟨w1.heap.size, 4, none⟩ (.slice A3 (Ln + 1) d3))) := Lib.hid HN.out.2
              generalize w3.setCell ⟨w1.heap.size, 4, none⟩ (.slice A3 (Ln + 1) d3) = w7 at *
              clear HN HP HO HA c4 s1 s2 HM
              have HR : Hid (w7.rangeAt w1.heap.size 0 [.string ⟨#[102]⟩, .slice none 0 0, .int .i64 0, .int .i64 0, .slice A3 (Ln + 1) d3]) := Lib.hid (rangeV_of (cs := [.string ⟨#[102]⟩, .slice none 0 0, .int .i64 0, .int .i64 0, .slice A3 (Ln + 1) d3]) HF.out.cell)
              have H8 := Lib.hid (And.intro (heap_alloc_new w7 (.cells #[.string ⟨#[102]⟩, .slice none 0 0, .int .i64 0, .int .i64 0, .slice A3 (Ln + 1) d3] 30)) (And.intro (below_alloc w7 (.cells #[.string ⟨#[102]⟩, .slice none 0 0, .int .i64 0, .int .i64 0, .slice A3 (Ln + 1) d3] 30)) (size_al w7 (.cells #[.string ⟨#[102]⟩, .slice none 0 0, .int .i64 0, .int .i64 0, .slice A3 (Ln + 1) d3] 30))))
              go_wp2_with (first | (refine wpList_load_mid rfl 30 (.tmp 8) rfl w1.heap.size 0 rfl [.string ⟨#[102]⟩, .slice none 0 0, .int .i64 0, .int .i64 0, .slice A3 (Ln + 1) d3] _ HR.out Tryd.underlying30 rfl (by exact info30s) ?_) | fail)
              generalize w7.alloc (.cells #[.string ⟨#[102]⟩, .slice none 0 0, .int .i64 0, .int .i64 0, .slice A3 (Ln + 1) d3] 30) = w8 at *
              have hs8 := H8.out.2.2
              have hrow : RowL w8 w8.heap.size (rowsK n true ++ [(18, 0)]).length (insV (rowsK n true ++ [(18, 0)])) (.slice A3 (Ln + 1) d3) := ((own_row HF.out.own (by simp)).below H8.out.2.1).more (by omega)
              have hm8 : ModV w8 w8.heap.size (rM n true 0) (.agg #[.slice (some ⟨w7.heap.size, 0, none⟩) 1 1, .slice none 0 0]) :=
                ⟨_, _, rfl, codes_of (l := [rC n true 0]) (vs := coC (rC n true 0) (.slice none 0 0) (.slice A3 (Ln + 1) d3) ++ []) H8.out.1 (by omega) (Nat.le_refl _) (by decide) (.cons (RowL.nothing _ _) hrow .nil), GridV.nothing _ _⟩
              have hb8 : Below w.heap.size w w8 := (HB1.out.trans (HF.out.low.mono HB1.out.size)).trans (H8.out.2.1.mono (by have h1 := HF.out.low.size; have h2 := HB1.out.size; omega))
              have K := Lib.hid (checkC _ _ w8 hm8 (rFit true false hn) (HT.out.below hb8 HT.out.1))
              have HB8 := Lib.hid hb8
              clear hs8 hrow hm8 hb8 HR HF
              refine K.out.mono ?_
              rintro r w9 ⟨rfl, hb9⟩
              rw [show checkM (rM n true 0) = 131 from rCheck true false hn]
              have HB9 := Lib.hid (HB8.out.trans (hb9.mono HB8.out.size))
              clear hb9 K
              go_wp2_with fail
              go_ret
              exact ⟨rfl, HB9.out⟩
            | true =>
              have HL : Hid (((List.range n).map (fun i : Nat => ((2, (i : Int)) : Ins)) ++ List.replicate n (17, 0)).length = n + n) := Lib.hid (by simp)
              obtain ⟨AV, cV, eV, _, _⟩ := own_slice HQ.out.own
              rw [HL.out] at eV
              subst eV
              have c4 := HQ.out.cells.1
              have HA := Lib.hid (HQ.out.ahead (k := 2) (a := 0))
              have HP := Lib.hid (fun V' w3 ho hg => HQ.out.app (k := 2) (a := 0) (V' := V') (w3 := w3) ho hg)
              have HO : Hid ((wr.alloc (.cells #[.int .i64 (2), .int .i64 (0)] 35)).ownsRow w1.heap.size 35 2 (.slice AV (n + n) cV) (n + n) (insV ((List.range n).map (fun i : Nat => ((2, (i : Int)) : Ins)) ++ List.replicate n (17, 0)))) := by
                have := HA.out.1
                rw [HL.out] at this
                exact this
              go_upto_region 13 with (at_builtin; refine wpListR_append rfl (.tmp 41) (.tmp 43) 28 rfl w1.heap.size 35 i0 _ 2 16 Tryd.underlying28 hi hz0 hz1 hz2 rfl (by omega) _ (n + n) (insV ((List.range n).map (fun i : Nat => ((2, (i : Int)) : Ins)) ++ List.replicate n (17, 0))) rfl HO.out ⟨wr.heap.size, 0, none⟩ 1 1 [.int .i64 (2), .int .i64 (0)] rfl rfl HA.out.2.1 (by intro u hu; simp at hu; rcases hu with rfl | rfl <;> rfl) (by unfold maxLen; omega) (by omega) HA.out.2.2 ?_; intro V' w3 ho hg _; obtain ⟨A3, d3, e3, _, _⟩ := own_slice ho; subst e3; have HN := Lib.hid (HP.out _ _ (by rw [HL.out]; exact ho) hg); obtain ⟨s1, s2⟩ := rw_cells HN.out.1; clear ho hg)
              have HK : Hid (RowsS w1 w1.heap.size 0 (rowsK n true) (.slice A3 (n + n + 1) d3) (w3.setCell ⟨w1.heap.size, 4, none⟩ (.slice A3 (n + n + 1) d3))) := Lib.hid HN.out.2
              generalize w3.setCell ⟨w1.heap.size, 4, none⟩ (.slice A3 (n + n + 1) d3) = w4 at *
              generalize Value.slice A3 (n + n + 1) d3 = V4 at *
              clear HN HP HO HA HL c4 s1 s2
              obtain ⟨t1, t2⟩ := HK.out.cell2
              go_upto_region 15 with fail
              have HM : Hid (RowsS w1 w1.heap.size 1 (rowsK n true) V4 (w4.setCell ⟨w1.heap.size, 2, none⟩ (.int .i64 1))) := Lib.hid HK.out.res
              generalize w4.setCell ⟨w1.heap.size, 2, none⟩ (.int .i64 1) = w6 at *
              clear t1 t2
              obtain ⟨Ln, hLn⟩ : ∃ Ln, (rowsK n true).length = Ln := ⟨_, rfl⟩
              have hLn2 : Ln ≤ 600 := by
                have := rows_len n true
                rw [List.length_append, hLn] at this
                omega
              have HL := Lib.hid hLn
              clear hLn HK
              obtain ⟨AV, cV, eV, _, _⟩ := own_slice HM.out.own
              rw [HL.out] at eV
              subst eV
              have c4 := HM.out.cells.1
              have HA := Lib.hid (HM.out.ahead (k := 18) (a := 0))
              have HP := Lib.hid (fun V' w3 ho hg => HM.out.app (k := 18) (a := 0) (V' := V') (w3 := w3) ho hg)
              have HO : Hid ((w6.alloc (.cells #[.int .i64 (18), .int .i64 (0)] 35)).ownsRow w1.heap.size 35 2 (.slice AV (Ln) cV) (Ln) (insV (rowsK n true))) := by
                have := HA.out.1
                rw [HL.out] at this
                exact this
              go_upto_region 16 with (at_builtin; refine wpListR_append rfl (.tmp 49) (.tmp 51) 28 rfl w1.heap.size 35 i0 _ 2 16 Tryd.underlying28 hi hz0 hz1 hz2 rfl (by omega) _ (Ln) (insV (rowsK n true)) rfl HO.out ⟨w6.heap.size, 0, none⟩ 1 1 [.int .i64 (18), .int .i64 (0)] rfl rfl HA.out.2.1 (by intro u hu; simp at hu; rcases hu with rfl | rfl <;> rfl) (by unfold maxLen; omega) (by omega) HA.out.2.2 ?_; intro V' w3 ho hg _; obtain ⟨A3, d3, e3, _, _⟩ := own_slice ho; subst e3; have HN := Lib.hid (HP.out _ _ (by rw [HL.out]; exact ho) hg); obtain ⟨s1, s2⟩ := rw_cells HN.out.1; clear ho hg)
              have HF : Hid (RowsS w1 w1.heap.size 1 (rowsK n true ++ [(18, 0)]) (.slice A3 (Ln + 1) d3) (w3.setCell ⟨w1.heap.size, 4, none⟩ (.slice A3 (Ln + 1) d3))) := Lib.hid HN.out.2
              generalize w3.setCell ⟨w1.heap.size, 4, none⟩ (.slice A3 (Ln + 1) d3) = w7 at *
              clear HN HP HO HA c4 s1 s2 HM
              have HR : Hid (w7.rangeAt w1.heap.size 0 [.string ⟨#[102]⟩, .slice none 0 0, .int .i64 1, .int .i64 0, .slice A3 (Ln + 1) d3]) := Lib.hid (rangeV_of (cs := [.string ⟨#[102]⟩, .slice none 0 0, .int .i64 1, .int .i64 0, .slice A3 (Ln + 1) d3]) HF.out.cell)
              have H8 := Lib.hid (And.intro (heap_alloc_new w7 (.cells #[.string ⟨#[102]⟩, .slice none 0 0, .int .i64 1, .int .i64 0, .slice A3 (Ln + 1) d3] 30)) (And.intro (below_alloc w7 (.cells #[.string ⟨#[102]⟩, .slice none 0 0, .int .i64 1, .int .i64 0, .slice A3 (Ln + 1) d3] 30)) (size_al w7 (.cells #[.string ⟨#[102]⟩, .slice none 0 0, .int .i64 1, .int .i64 0, .slice A3 (Ln + 1) d3] 30))))
              go_wp2_with (first | (refine wpList_load_mid rfl 30 (.tmp 8) rfl w1.heap.size 0 rfl [.string ⟨#[102]⟩, .slice none 0 0, .int .i64 1, .int .i64 0, .slice A3 (Ln + 1) d3] _ HR.out Tryd.underlying30 rfl (by exact info30s) ?_) | fail)
              generalize w7.alloc (.cells #[.string ⟨#[102]⟩, .slice none 0 0, .int .i64 1, .int .i64 0, .slice A3 (Ln + 1) d3] 30) = w8 at *
              have hs8 := H8.out.2.2
              have hrow : RowL w8 w8.heap.size (rowsK n true ++ [(18, 0)]).length (insV (rowsK n true ++ [(18, 0)])) (.slice A3 (Ln + 1) d3) := ((own_row HF.out.own (by simp)).below H8.out.2.1).more (by omega)
              have hm8 : ModV w8 w8.heap.size (rM n true 1) (.agg #[.slice (some ⟨w7.heap.size, 0, none⟩) 1 1, .slice none 0 0]) :=
                ⟨_, _, rfl, codes_of (l := [rC n true 1]) (vs := coC (rC n true 1) (.slice none 0 0) (.slice A3 (Ln + 1) d3) ++ []) H8.out.1 (by omega) (Nat.le_refl _) (by decide) (.cons (RowL.nothing _ _) hrow .nil), GridV.nothing _ _⟩
              have hb8 : Below w.heap.size w w8 := (HB1.out.trans (HF.out.low.mono HB1.out.size)).trans (H8.out.2.1.mono (by have h1 := HF.out.low.size; have h2 := HB1.out.size; omega))
              have K := Lib.hid (checkC _ _ w8 hm8 (rFit true true hn) (HT.out.below hb8 HT.out.1))
              have HB8 := Lib.hid hb8
              clear hs8 hrow hm8 hb8 HR HF
              refine K.out.mono ?_
              rintro r w9 ⟨rfl, hb9⟩
              rw [show checkM (rM n true 1) = 0 from rCheck true true hn]
              have HB9 := Lib.hid (HB8.out.trans (hb9.mono HB8.out.size))
              clear hb9 K
              go_wp2_with fail
              go_ret
              exact ⟨rfl, HB9.out⟩
end Go.Proofs.YtilmidjkjgeoeaaDoor
