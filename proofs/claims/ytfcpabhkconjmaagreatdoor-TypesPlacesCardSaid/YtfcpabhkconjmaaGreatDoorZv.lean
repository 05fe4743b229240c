/- An expression without places: what 'still' answers. Conditions: the expression's kids lie in memory. -/
import Derived.Test.YtfcpabhkconjmaaGreatDoorZu
import Derived.Test.YtfcpabhkconjmaaGreatDoorZq
namespace Go.Proofs.YtfcpabhkconjmaaGreatDoor
open Go.RowKit
set_option maxRecDepth 100000
set_option linter.unusedSimpArgs false
set_option linter.unusedVariables false

def StillO (w : World) (e : Xe) (E : Ending) (w' : World) : Prop := ∃ k', E = .returned (.agg #[.int .i64 e.op, .int .i64 e.num, .string (strN e.text), k', .int .i64 0]) ∧ XesC w' (Rng w.heap.size w'.heap.size) (noEs e.kids) k' ∧ Below w.heap.size w w'
set_option maxHeartbeats 800000 in
theorem stillC : ∀ (N : Nat) (e : Xe) (k : Value) (w : World), szE e < N → smE reachBytes e → XesC w (Lo w.heap.size) e.kids k → Calls Tryz.prog 28 #[.agg #[.int .i64 e.op, .int .i64 e.num, .string (strN e.text), k, .int .i64 e.place]] w (StillO w e) := by
  intro N
  induction N with
  | zero => intro e k w hN; omega
  | succ N ih =>
    intro e k w hN hM hX
    have hmx := hX.len5
    have hkl := (smE_kids hM).1
    have hreach : reachBytes = 140737488351232 := rfl
    rw [hreach] at hkl
    clear hreach
    have HMz := Lib.hid (smE_kids hM).2
    clear hM
    obtain ⟨A, c, rfl⟩ := xesC_slice hX
    obtain ⟨i0, hi, hz0, hz1, hz2⟩ := info_parts info39
    have HX := Lib.hid hX
    have HI := Lib.hid ih
    have HNz := Lib.hid hN
    have HNk := Lib.hid (szE_kids e)
    clear hX ih hN
    generalize hop : e.op = op at *
    generalize hnum : e.num = num at *
    generalize htx : strN e.text = tx at *
    generalize e.place = pl at *
    have HE : Hid (e.op = op ∧ e.num = num ∧ strN e.text = tx) := ⟨hop, hnum, htx⟩
    clear hop hnum htx
    generalize hks : e.kids = ks at *
    have HKs := Lib.hid hks
    clear hks
    go_enter Tryz.func28, Tryz.ntmps28
    go_upto_region 2 with fail
    have hvx : VarAt ((w.alloc (.cells #[.int .i64 op, .int .i64 num, .string tx, .slice A ks.length c, .int .i64 0] 46)).alloc (.cells #[.int .i64 0, .int .i64 0, .string ⟨#[]⟩, .slice none 0 0, .int .i64 0] 46)) w.heap.size [.int .i64 op, .int .i64 num, .string tx, .slice A ks.length c, .int .i64 0] := (VarAt.block (cs := [_, _, _, _, _]) (heap_alloc_new w _)).of ((below_alloc _ _).block _ (by simp))
    have hvr : VarAt ((w.alloc (.cells #[.int .i64 op, .int .i64 num, .string tx, .slice A ks.length c, .int .i64 0] 46)).alloc (.cells #[.int .i64 0, .int .i64 0, .string ⟨#[]⟩, .slice none 0 0, .int .i64 0] 46)) (w.heap.size + 1) [.int .i64 0, .int .i64 0, .string ⟨#[]⟩, .slice none 0 0, .int .i64 0] := by
      have := VarAt.block (cs := [.int .i64 0, .int .i64 0, .string ⟨#[]⟩, .slice none 0 0, .int .i64 0]) (heap_alloc_new (w.alloc (.cells #[.int .i64 op, .int .i64 num, .string tx, .slice A ks.length c, .int .i64 0] 46)) (.cells #[.int .i64 0, .int .i64 0, .string ⟨#[]⟩, .slice none 0 0, .int .i64 0] 46))
      simpa using this
    have HVX := Lib.hid hvx
    have HVR := Lib.hid hvr
    have HB2 : Hid (Below w.heap.size w ((w.alloc (.cells #[.int .i64 op, .int .i64 num, .string tx, .slice A ks.length c, .int .i64 0] 46)).alloc (.cells #[.int .i64 0, .int .i64 0, .string ⟨#[]⟩, .slice none 0 0, .int .i64 0] 46))) := (below_alloc w _).trans ((below_alloc _ _).mono (by simp))
    have HZ2 : Hid (((w.alloc (.cells #[.int .i64 op, .int .i64 num, .string tx, .slice A ks.length c, .int .i64 0] 46)).alloc (.cells #[.int .i64 0, .int .i64 0, .string ⟨#[]⟩, .slice none 0 0, .int .i64 0] 46)).heap.size = w.heap.size + 2) := by show _ = _; simp
    clear hvx hvr
    generalize (w.alloc (.cells #[.int .i64 op, .int .i64 num, .string tx, .slice A ks.length c, .int .i64 0] 46)).alloc (.cells #[.int .i64 0, .int .i64 0, .string ⟨#[]⟩, .slice none 0 0, .int .i64 0] 46) = w2 at *
    have HRn : Hid (∃ r, r = w.heap.size + 1) := ⟨_, rfl⟩
    obtain ⟨R, hR⟩ := HRn.out
    rw [← hR] at HVR ⊢
    have HRe := Lib.hid hR
    clear hR HRn
    go_wp2
    go_loopw [3, 4] (fun V i wr => ∃ k : Nat, k ≤ ks.length ∧ i = .int .i64 k ∧ Hid (Below w2.heap.size w2 wr ∧ OwX w2.heap.size wr (noEs (ks.take k)) V)) (fun _ i _ => ks.length - (intOf i).toNat)
    case atStart => exact ⟨0, Nat.zero_le _, rfl, Below.refl _ _, OwX.start _ _⟩
    case round =>
      obtain ⟨k, hk, rfl, HR⟩ := hrel
      have hbw := bthen5 HB2.out HR.out.1 HB2.out.size
      have x3 := cell_below (HVX.out.cell 3 _ rfl).1 HR.out.1
      by_cases hlt : k < ks.length
      · obtain ⟨e', he⟩ : ∃ e', ks[k]? = some e' := ⟨_, List.getElem?_eq_getElem hlt⟩
        have hsz : szE e' < N := by
          have := szE_mem (List.mem_of_getElem? he)
          have := HNz.out
          have := HNk.out
          omega
        obtain ⟨kb, ko, c', A0, c0, hV, _, _, hrg, k0, ek, hby, hkd⟩ := (HX.out.same (same_below hbw (Nat.le_refl _))).get5 he
        have ek2 : k0 = .slice A0 e'.kids.length c0 := by
          injection ek with ek
          simp [xeC] at ek
          exact ek.symm
        subst ek2
        injection hV with hV1 _ hV3
        subst hV1 hV3
        have KI := HI.out e' _ wr hsz (smEs_mem HMz.out e' (List.mem_of_getElem? he)) (hkd.morez fun q hq => Nat.lt_of_lt_of_le hq hbw.size)
        have HKI := Lib.hid KI
        have HRG : Hid (wr.rangeAt kb (ko + k * 5) [.int .i64 e'.op, .int .i64 e'.num, .string (strN e'.text), .slice A0 e'.kids.length c0, .int .i64 e'.place]) := hrg
        have HTk : Hid (noEs (ks.take (k + 1)) = noEs (ks.take k) ++ [noE e']) := by
          show _ = _
          rw [List.take_add_one, he, noEs_map, noEs_map]
          simp
        have HBy := Lib.hid hby
        have hop' : (noE e').op = e'.op ∧ (noE e').num = e'.num ∧ (noE e').text = e'.text ∧ (noE e').kids = noEs e'.kids ∧ (noE e').place = 0 := by cases e'; exact ⟨rfl, rfl, rfl, rfl, rfl⟩
        have HOp := Lib.hid hop'
        clear KI hrg hby hkd ek he hsz hop'
        go_wp2_with (first | (refine wpList_load_mid rfl 46 (.tmp 17) rfl kb (ko + k * 5) rfl [.int .i64 e'.op, .int .i64 e'.num, .string (strN e'.text), .slice A0 e'.kids.length c0, .int .i64 e'.place] _ HRG.out Tryz.underlying46 rfl info46f ?_; refine Hid.out ?_) | fail)
        refine Lib.hid ?_
        go_wp2_with fail
        with_reducible refine HKI.out.mono ?_
        rintro E w3 ⟨k', rfl, hk', b3⟩
        obtain ⟨A3, c3, rfl⟩ := xesC_slice hk'
        have O3 := HR.out.2.below b3
        have HB3 := Lib.hid (HR.out.1.trans (b3.mono HR.out.1.size))
        have hls : (noEs (ks.take k)).length = k := by rw [noEs_len, List.length_take]; omega
        obtain ⟨os, o1, o2, o3, o4⟩ := O3.below (below_alloc w3 (.cells #[.int .i64 e'.op, .int .i64 e'.num, .string (strN e'.text), .slice A3 (noEs e'.kids).length c3, .int .i64 0] 46))
        obtain ⟨A4, c4, rfl⟩ := own_shape o2
        have HO2 := Lib.hid o2
        have HO4 := Lib.hid o4
        have HO3 := Lib.hid o3
        have HKd : Hid (XesC (w3.alloc (.cells #[.int .i64 e'.op, .int .i64 e'.num, .string (strN e'.text), .slice A3 (noEs e'.kids).length c3, .int .i64 0] 46)) (Dz w2.heap.size (.slice A4 (noEs (ks.take k)).length c4) (w3.alloc (.cells #[.int .i64 e'.op, .int .i64 e'.num, .string (strN e'.text), .slice A3 (noEs e'.kids).length c3, .int .i64 0] 46))) (noEs e'.kids) (.slice A3 (noEs e'.kids).length c3)) :=
          (hk'.same fun q hq => (below_alloc w3 _).block q hq.2).morez fun q hq => ⟨⟨Nat.le_trans HR.out.1.size hq.1, fun e2 => by
            obtain ⟨os', _, o2', _⟩ := HR.out.2
            have h1 := (o2'.lt q e2.symm).2
            have h2 := hq.1
            omega⟩, Nat.lt_of_lt_of_le hq.2 (by simp)⟩
        have HN1 : Hid (∀ (j : Nat) (v : Value), ([.int .i64 e'.op, .int .i64 e'.num, .string (strN e'.text), .slice A3 (noEs e'.kids).length c3, .int .i64 0] : List Value)[j]? = some v → (w3.alloc (.cells #[.int .i64 e'.op, .int .i64 e'.num, .string (strN e'.text), .slice A3 (noEs e'.kids).length c3, .int .i64 0] 46)).cell? ((Addr.mk w3.heap.size 0 none).add j) = some v) := fun j v hv => by
          rw [Addr.add_mid]
          exact range_of (cs := [.int .i64 e'.op, .int .i64 e'.num, .string (strN e'.text), .slice A3 (noEs e'.kids).length c3, .int .i64 0]) (heap_alloc_new w3 _) j v hv
        have HSz : Hid (w2.heap.size ≤ (w3.alloc (.cells #[.int .i64 e'.op, .int .i64 e'.num, .string (strN e'.text), .slice A3 (noEs e'.kids).length c3, .int .i64 0] 46)).heap.size) := Nat.le_trans HB3.out.size (by simp)
        have HLs := Lib.hid hls
        have HOs := Lib.hid o1
        clear O3 b3 o2 o3 o4 HKI HRG hk' hls o1
        go_wp2_with (at_builtin; refine wpList_append_one _ rfl (.tmp 13) (.tmp 20) 44 rfl w2.heap.size 46 i0 _ 5 64 Tryz.underlying44 hi hz0 hz1 hz2 rfl (by omega) _ _ _ rfl HO2.out ⟨w3.heap.size, 0, none⟩ 1 [.int .i64 e'.op, .int .i64 e'.num, .string (strN e'.text), .slice A3 (noEs e'.kids).length c3, .int .i64 0] rfl rfl HN1.out one5 (by rw [HLs.out]; omega) (by rw [HLs.out]; unfold maxLen; omega) HSz.out ?_; intro V5 u5 ho5 hg5 hv5; refine Hid.out ?_)
        refine Lib.hid ?_
        have HOk : Hid (OwX w2.heap.size u5 (noEs (ks.take (k + 1))) V5) := by
          show OwX _ _ _ _
          rw [HTk.out]
          refine OwX.push HOs.out HO2.out HO3.out HO4.out rfl ho5 ?_ hg5 hv5 ?_ (k := .slice A3 (noEs e'.kids).length c3) ?_
          · unfold xeC
            obtain ⟨h1, h2, h3, h4, h5⟩ := HOp.out
            rw [h1, h2, h3, h5]
          · rw [HOp.out.2.2.1]; exact HBy.out
          · rw [HOp.out.2.2.2.1]; exact HKd.out
        have HB5 : Hid (Below w2.heap.size w2 u5) := (HB3.out.trans ((below_alloc w3 _).mono HB3.out.size)).grown hg5 (Nat.le_trans HB3.out.size (by simp)) (fun b hb => (HO2.out.lt b hb).1)
        obtain ⟨A5, c5, rfl⟩ := own_shape ho5
        clear ho5 hg5 hv5 HO2 HO3 HO4 HOs HKd HN1 HSz HB3
        go_wp2
        go_roundw
        case rel => exact ⟨k + 1, by omega, by go_num, HB5.out, HOk.out⟩
        case measure => simp [intOf]; omega
      · obtain rfl : k = ks.length := by omega
        have hown := HR.out.2
        rw [List.take_length] at hown
        obtain ⟨os, o1, o2, o3, o4⟩ := hown
        obtain ⟨A4, c4, rfl⟩ := own_shape o2
        have HOw : Hid (OwX w2.heap.size wr (noEs ks) (.slice A4 (noEs ks).length c4)) := ⟨os, o1, o2, o3, o4⟩
        have HVr := Lib.hid (HVX.out.of (HR.out.1.block w.heap.size (by have := HZ2.out; omega)))
        have HRr := Lib.hid (HVR.out.of (HR.out.1.block R (HVR.out.lt (by simp))))
        obtain ⟨hce, hcf⟩ := HVr.out.cell 3 _ rfl
        clear o1 o2 o3 o4
        go_upto_region 8 with fail
        have hv2 : VarAt (wr.setCell ⟨w.heap.size, 3, none⟩ (.slice A4 (noEs ks).length c4)) w.heap.size [.int .i64 op, .int .i64 num, .string tx, .slice A4 (noEs ks).length c4, .int .i64 0] := HVr.out.set 3 _
        have hvr2 : VarAt (wr.setCell ⟨w.heap.size, 3, none⟩ (.slice A4 (noEs ks).length c4)) R [.int .i64 0, .int .i64 0, .string ⟨#[]⟩, .slice none 0 0, .int .i64 0] := HRr.out.of (set_other R (by have := HRe.out; omega))
        have HO5 : Hid (OwX w2.heap.size (wr.setCell ⟨w.heap.size, 3, none⟩ (.slice A4 (noEs ks).length c4)) (noEs ks) (.slice A4 (noEs ks).length c4)) := HOw.out.keep (fun b hb _ => set_other b (by have := HZ2.out; omega)) (by rw [set_size]; exact Nat.le_refl _)
        have HB5 : Hid (Below w.heap.size w (wr.setCell ⟨w.heap.size, 3, none⟩ (.slice A4 (noEs ks).length c4))) := hbw.trans set_below
        have HTh := Lib.hid hvr2.2
        obtain ⟨z0, _⟩ := hv2.cell 0 _ rfl
        obtain ⟨z1, _⟩ := hv2.cell 1 _ rfl
        obtain ⟨z2, _⟩ := hv2.cell 2 _ rfl
        obtain ⟨z3, _⟩ := hv2.cell 3 _ rfl
        obtain ⟨z4, _⟩ := hv2.cell 4 _ rfl
        clear hvr2 hv2 hce hcf HOw HVr HRr x3
        generalize wr.setCell ⟨w.heap.size, 3, none⟩ (.slice A4 (noEs ks).length c4) = w5 at *
        go_wp2_with (first | (refine wpList_storeN info46f rfl (.tmp 2) (.tmp 24) rfl rfl R rfl [.int .i64 op, .int .i64 num, .string tx, .slice A4 (noEs ks).length c4, .int .i64 0] rfl rfl HTh.out one5 ?_; intro w6 g1 g2 g3 g4 g5) | fail)
        refine bodyPost_ret (ret_cell (cs := [_, _, _, _, _]) Tryz.results28 Tryz.underlying46 rfl info46f _ _ R rfl g1) rfl ?_
        refine ⟨.slice A4 (noEs ks).length c4, by rw [HE.out.1, HE.out.2.1, HE.out.2.2], ?_, ?_⟩
        · rw [HKs.out]
          exact (HO5.out.keep (fun b hb _ => g4 b (by have := HZ2.out; have := HRe.out; omega)) (by rw [g5]; exact Nat.le_refl _)).exs.morez fun q hq => ⟨Nat.le_trans HB2.out.size hq.1, hq.2⟩
        · exact HB5.out.trans (g3.mono (by have := HRe.out; omega))
end Go.Proofs.YtfcpabhkconjmaaGreatDoor
