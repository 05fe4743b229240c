/- Statements without places: what 'stills' answers. Conditions: the statements lie in memory. -/
import Derived.Test.YtfcpabhkconjmaaGreatDoorZv
namespace Go.Proofs.YtfcpabhkconjmaaGreatDoor
open Go.RowKit
set_option maxRecDepth 100000
set_option linter.unusedSimpArgs false
set_option linter.unusedVariables false

theorem stRowX {w : World} {D : Nat → Prop} {l : List Xs} {V : Value} (h : XssC w D l V) {i : Nat} {s : Xs} (he : l[i]? = some s) : ∃ (b o c : Nat) (k : Three), V = .slice (some ⟨b, o, none⟩) l.length c ∧ w.rangeAt b (o + i * 6) (xsC s k.e k.b k.f) ∧ Byn s.text ∧ XesC w D s.exprs k.e ∧ XssC w D s.body k.b ∧ XssC w D s.els k.f := by
  cases h with
  | mk _ ks _ hk h1 ht h2 h3 h4 =>
    have hi := (List.getElem?_eq_some_iff.1 he).1
    obtain ⟨k, hk'⟩ : ∃ k, ks[i]? = some k := ⟨_, List.getElem?_eq_getElem (by omega)⟩
    have hg := fun j hj => zip_get (f := fun (s : Xs) (k : Three) => xsC s k.e k.b k.f) (m := 6) (fun _ _ => rfl) l ks i j s k he hk' hj
    obtain ⟨b, o, c, rfl, a1, a2, a3, a4⟩ := h1.plain5 (by
      intro e0
      have := hg 0 (by omega)
      unfold xssC at e0
      rw [e0] at this
      simp [xsC] at this)
    refine ⟨b, o, c, k, rfl, fun j v hv => ?_, ht s (List.mem_of_getElem? he), h2 i s k he hk', h3 i s k he hk', h4 i s k he hk'⟩
    have hj : j < 6 := by
      have := (List.getElem?_eq_some_iff.1 hv).1
      simpa [xsC] using this
    rw [Nat.add_assoc]
    exact a4 _ v ((hg j hj).trans hv)
def StillsO (w : World) (l : List Xs) (E : Ending) (w' : World) : Prop := ∃ V, E = .returned V ∧ XssC w' (Rng w.heap.size w'.heap.size) (noSs l) V ∧ Below w.heap.size w w'
theorem noSs_len (l : List Xs) : (noSs l).length = l.length := by rw [noSs_map]; simp
set_option maxHeartbeats 1600000 in
theorem stillsC : ∀ (N : Nat) (l : List Xs) (V : Value) (w : World), szSs l < N → l.length * 104 ≤ reachBytes → smSs reachBytes l → XssC w (Lo w.heap.size) l V → Calls Tryz.prog 17 #[V] w (StillsO w l) := by
  intro N
  induction N with
  | zero => intro l V w hN; omega
  | succ N ih =>
    intro l V w hN hlm hM hX
    have hmx := hX.len5
    obtain ⟨A, c, rfl⟩ := xssC_slice hX
    obtain ⟨i0, hi, hz0, hz1, hz2⟩ := info_parts info39
    obtain ⟨j0, hj, hy0, hy1, hy2⟩ := info_parts info43
    have hreach : reachBytes = 140737488351232 := rfl
    rw [hreach] at hlm
    have HRe := Lib.hid hreach
    have HX := Lib.hid hX
    have HI := Lib.hid ih
    have HNz := Lib.hid hN
    have HM := Lib.hid hM
    clear hX ih hN hM hreach
    go_enter Tryz.func17, Tryz.ntmps17
    go_wp2
    go_loopw [3, 4, 5, 6, 7] (fun V i _ _ _ wr => ∃ k : Nat, k ≤ l.length ∧ i = .int .i64 k ∧ Hid (Below w.heap.size w wr ∧ OwS w.heap.size wr (noSs (l.take k)) V)) (fun _ i _ _ _ _ => l.length - (intOf i).toNat)
    case atStart => exact ⟨0, Nat.zero_le _, rfl, Below.refl _ _, OwS.start _ _⟩
    case round =>
      obtain ⟨k, hk, rfl, HR⟩ := hrel
      obtain ⟨A0, c0, hv0⟩ : ∃ A0 c0, u3 = .slice A0 (noSs (l.take k)).length c0 := by
        obtain ⟨os, o1, o2, o3, o4⟩ := HR.out.2
        exact own_shape o2
      subst hv0
      have HLs : Hid ((noSs (l.take k)).length = k) := by show _ = _; rw [noSs_len, List.length_take]; omega
      by_cases hlt : k < l.length
      · obtain ⟨s, he⟩ : ∃ s, l[k]? = some s := ⟨_, List.getElem?_eq_getElem hlt⟩
        have hsz : szS s ≤ N := by
          have := szS_mem (List.mem_of_getElem? he)
          have := HNz.out
          omega
        have hsm := smS_parts (smSs_mem HM.out s (List.mem_of_getElem? he))
        obtain ⟨b, o, c', q, hV, hrg, hby, he1, hb1, hf1⟩ := stRowX (HX.out.same (same_below HR.out.1 (Nat.le_refl _))) he
        injection hV with hV1 _ hV3
        subst hV1 hV3
        obtain ⟨A1, c1, e1⟩ := xesC_slice he1
        obtain ⟨A2, c2, e2⟩ := xssC_slice hb1
        obtain ⟨A3, c3, e3⟩ := xssC_slice hf1
        rw [e1, e2, e3] at hrg
        rw [e1] at he1
        rw [e2] at hb1
        rw [e3] at hf1
        have HRG : Hid (wr.rangeAt b (o + k * 6) [.int .i64 s.op, .string (strN s.text), .slice A1 s.exprs.length c1, .slice A2 s.body.length c2, .slice A3 s.els.length c3, .int .i64 s.place]) := hrg
        have HTk : Hid (noSs (l.take (k + 1)) = noSs (l.take k) ++ [noS s]) := by
          show _ = _
          rw [List.take_add_one, he, noSs_map, noSs_map]
          simp
        have HSm := Lib.hid hsm
        have HSz := Lib.hid hsz
        have HBy := Lib.hid hby
        have HE1 := Lib.hid he1
        have HB1 := Lib.hid hb1
        have HF1 := Lib.hid hf1
        have hxl := he1.len5
        have hel := hsm.1.1
        rw [HRe.out] at hel
        clear e1 e2 e3 hrg he1 hb1 hf1 hsm hsz hby he
        go_wp2_with (first | (refine wpList_load_mid rfl 48 (.tmp 16) rfl b (o + k * 6) rfl [.int .i64 s.op, .string (strN s.text), .slice A1 s.exprs.length c1, .slice A2 s.body.length c2, .slice A3 s.els.length c3, .int .i64 s.place] _ HRG.out Tryz.underlying48 rfl info48f ?_; refine Hid.out ?_) | fail)
        refine Lib.hid ?_
        go_upto_region 7 with fail
        have HVS : Hid (VarAt (wr.alloc (.cells #[.int .i64 s.op, .string (strN s.text), .slice A1 s.exprs.length c1, .slice A2 s.body.length c2, .slice A3 s.els.length c3, .int .i64 0] 48)) wr.heap.size [.int .i64 s.op, .string (strN s.text), .slice A1 s.exprs.length c1, .slice A2 s.body.length c2, .slice A3 s.els.length c3, .int .i64 0]) := VarAt.block (cs := [_, _, _, _, _, _]) (heap_alloc_new wr _)
        have HBs : Hid (Below wr.heap.size wr (wr.alloc (.cells #[.int .i64 s.op, .string (strN s.text), .slice A1 s.exprs.length c1, .slice A2 s.body.length c2, .slice A3 s.els.length c3, .int .i64 0] 48))) := below_alloc wr _
        have HZs : Hid ((wr.alloc (.cells #[.int .i64 s.op, .string (strN s.text), .slice A1 s.exprs.length c1, .slice A2 s.body.length c2, .slice A3 s.els.length c3, .int .i64 0] 48)).heap.size = wr.heap.size + 1) := by show _ = _; simp
        generalize wr.alloc (.cells #[.int .i64 s.op, .string (strN s.text), .slice A1 s.exprs.length c1, .slice A2 s.body.length c2, .slice A3 s.els.length c3, .int .i64 0] 48) = ws at *
        have HW0 : Hid (Below w.heap.size w ws) := bthen5 HR.out.1 HBs.out HR.out.1.size
        generalize wr = wo at *
        go_wp2
        go_loopw [6, 7] (fun X j wq => ∃ m : Nat, m ≤ s.exprs.length ∧ j = .int .i64 m ∧ Hid (Below ws.heap.size ws wq ∧ OwX ws.heap.size wq (noEs (s.exprs.take m)) X)) (fun _ j _ => s.exprs.length - (intOf j).toNat)
        case atStart => exact ⟨0, Nat.zero_le _, rfl, Below.refl _ _, OwX.start _ _⟩
        case round =>
          obtain ⟨m, hm, rfl, HQ⟩ := hrel
          have hbq := bthen5 HW0.out HQ.out.1 HW0.out.size
          have x2 := cell_below (HVS.out.cell 2 _ rfl).1 HQ.out.1
          obtain ⟨A4, c4, hv4⟩ : ∃ A4 c4, u6 = .slice A4 (noEs (s.exprs.take m)).length c4 := by
            obtain ⟨os, o1, o2, o3, o4⟩ := HQ.out.2
            exact own_shape o2
          subst hv4
          have HLx : Hid ((noEs (s.exprs.take m)).length = m) := by show _ = _; rw [noEs_len, List.length_take]; omega
          by_cases hlm : m < s.exprs.length
          · obtain ⟨e', he⟩ : ∃ e', s.exprs[m]? = some e' := ⟨_, List.getElem?_eq_getElem hlm⟩
            have he1q := (HE1.out.same (same_below (bthen5 HBs.out HQ.out.1 HBs.out.size) HR.out.1.size))
            obtain ⟨kb, ko, c', A0', c0', hV, _, _, hrg, k0, ek, hby, hkd⟩ := he1q.get5 he
            have ek2 : k0 = .slice A0' e'.kids.length c0' := by
              injection ek with ek
              simp [xeC] at ek
              exact ek.symm
            subst ek2
            injection hV with hV1 _ hV3
            subst hV1 hV3
            have KI := stillC _ e' _ wr (Nat.lt_succ_self _) (smEs_mem HSm.out.1.2 e' (List.mem_of_getElem? he)) (hkd.morez fun q hq => Nat.lt_of_lt_of_le hq hbq.size)
            have HKI := Lib.hid KI
            have HRG2 : Hid (wr.rangeAt kb (ko + m * 5) [.int .i64 e'.op, .int .i64 e'.num, .string (strN e'.text), .slice A0' e'.kids.length c0', .int .i64 e'.place]) := hrg
            have HTm : Hid (noEs (s.exprs.take (m + 1)) = noEs (s.exprs.take m) ++ [noE e']) := by
              show _ = _
              rw [List.take_add_one, he, noEs_map, noEs_map]
              simp
            have HBy2 := Lib.hid hby
            have hop' : (noE e').op = e'.op ∧ (noE e').num = e'.num ∧ (noE e').text = e'.text ∧ (noE e').kids = noEs e'.kids ∧ (noE e').place = 0 := by cases e'; exact ⟨rfl, rfl, rfl, rfl, rfl⟩
            have HOp := Lib.hid hop'
            clear KI hrg hby hkd ek he hop' he1q
            go_wp2_with (first | (refine wpList_load_mid rfl 46 (.tmp 30) rfl kb (ko + m * 5) rfl [.int .i64 e'.op, .int .i64 e'.num, .string (strN e'.text), .slice A0' e'.kids.length c0', .int .i64 e'.place] _ HRG2.out Tryz.underlying46 rfl info46f ?_; refine Hid.out ?_) | fail)
            refine Lib.hid ?_
            go_wp2_with fail
            with_reducible refine HKI.out.mono ?_
            rintro E w3 ⟨k', rfl, hk', b3⟩
            obtain ⟨A3', c3', rfl⟩ := xesC_slice hk'
            have O3 := HQ.out.2.below b3
            have HB3 := Lib.hid (HQ.out.1.trans (b3.mono HQ.out.1.size))
            obtain ⟨os, o1, o2, o3, o4⟩ := O3.below (below_alloc w3 (.cells #[.int .i64 e'.op, .int .i64 e'.num, .string (strN e'.text), .slice A3' (noEs e'.kids).length c3', .int .i64 0] 46))
            have HO2 := Lib.hid o2
            have HO4 := Lib.hid o4
            have HO3 := Lib.hid o3
            have HKd : Hid (XesC (w3.alloc (.cells #[.int .i64 e'.op, .int .i64 e'.num, .string (strN e'.text), .slice A3' (noEs e'.kids).length c3', .int .i64 0] 46)) (Dz ws.heap.size (.slice A4 (noEs (s.exprs.take m)).length c4) (w3.alloc (.cells #[.int .i64 e'.op, .int .i64 e'.num, .string (strN e'.text), .slice A3' (noEs e'.kids).length c3', .int .i64 0] 46))) (noEs e'.kids) (.slice A3' (noEs e'.kids).length c3')) :=
              (hk'.same fun q hq => (below_alloc w3 _).block q hq.2).morez fun q hq => ⟨⟨Nat.le_trans HQ.out.1.size hq.1, fun e2 => by
                obtain ⟨os', _, o2', _⟩ := HQ.out.2
                have h1 := (o2'.lt q e2.symm).2
                have h2 := hq.1
                omega⟩, Nat.lt_of_lt_of_le hq.2 (by simp)⟩
            have HN1 : Hid (∀ (j : Nat) (v : Value), ([.int .i64 e'.op, .int .i64 e'.num, .string (strN e'.text), .slice A3' (noEs e'.kids).length c3', .int .i64 0] : List Value)[j]? = some v → (w3.alloc (.cells #[.int .i64 e'.op, .int .i64 e'.num, .string (strN e'.text), .slice A3' (noEs e'.kids).length c3', .int .i64 0] 46)).cell? ((Addr.mk w3.heap.size 0 none).add j) = some v) := fun j v hv => by
              rw [Addr.add_mid]
              exact range_of (cs := [.int .i64 e'.op, .int .i64 e'.num, .string (strN e'.text), .slice A3' (noEs e'.kids).length c3', .int .i64 0]) (heap_alloc_new w3 _) j v hv
            have HSz3 : Hid (ws.heap.size ≤ (w3.alloc (.cells #[.int .i64 e'.op, .int .i64 e'.num, .string (strN e'.text), .slice A3' (noEs e'.kids).length c3', .int .i64 0] 46)).heap.size) := Nat.le_trans HB3.out.size (by simp)
            have HOs := Lib.hid o1
            clear O3 b3 o2 o3 o4 HKI HRG2 hk' o1
            go_wp2_with (at_builtin; refine wpList_append_one _ rfl (.tmp 26) (.tmp 33) 44 rfl ws.heap.size 46 i0 _ 5 64 Tryz.underlying44 hi hz0 hz1 hz2 rfl (by omega) _ _ _ rfl HO2.out ⟨w3.heap.size, 0, none⟩ 1 [.int .i64 e'.op, .int .i64 e'.num, .string (strN e'.text), .slice A3' (noEs e'.kids).length c3', .int .i64 0] rfl rfl HN1.out one5 (by rw [HLx.out]; omega) (by rw [HLx.out]; unfold maxLen; omega) HSz3.out ?_; intro V5 u5 ho5 hg5 hv5; refine Hid.out ?_)
            refine Lib.hid ?_
            have HOk : Hid (OwX ws.heap.size u5 (noEs (s.exprs.take (m + 1))) V5) := by
              show OwX _ _ _ _
              rw [HTm.out]
              refine OwX.push HOs.out HO2.out HO3.out HO4.out rfl ho5 ?_ hg5 hv5 ?_ (k := .slice A3' (noEs e'.kids).length c3') ?_
              · unfold xeC
                obtain ⟨h1, h2, h3, h4, h5⟩ := HOp.out
                rw [h1, h2, h3, h5]
              · rw [HOp.out.2.2.1]; exact HBy2.out
              · rw [HOp.out.2.2.2.1]; exact HKd.out
            have HB5 : Hid (Below ws.heap.size ws u5) := (HB3.out.trans ((below_alloc w3 _).mono HB3.out.size)).grown hg5 (Nat.le_trans HB3.out.size (by simp)) (fun b hb => (HO2.out.lt b hb).1)
            obtain ⟨A5, c5, rfl⟩ := own_shape ho5
            clear ho5 hg5 hv5 HO2 HO3 HO4 HOs HKd HN1 HSz3 HB3
            go_wp2
            go_roundw
            case rel => exact ⟨m + 1, by omega, by go_num, HB5.out, HOk.out⟩
            case measure => simp [intOf]; omega
          · obtain rfl : m = s.exprs.length := by omega
            have hown := HQ.out.2
            rw [List.take_length] at hown
            have HOw := Lib.hid hown
            rw [show (noEs (List.take s.exprs.length s.exprs)) = noEs s.exprs by rw [List.take_length]]
            have HVq := Lib.hid (HVS.out.of (HQ.out.1.block wo.heap.size (by have := HZs.out; omega)))
            obtain ⟨hce, hcf⟩ := HVq.out.cell 2 _ rfl
            clear hown x2
            go_upto_region 13 with fail
            have HVa : Hid (VarAt (wr.setCell ⟨wo.heap.size, 2, none⟩ (.slice A4 (noEs s.exprs).length c4)) wo.heap.size [.int .i64 s.op, .string (strN s.text), .slice A4 (noEs s.exprs).length c4, .slice A2 s.body.length c2, .slice A3 s.els.length c3, .int .i64 0]) := HVq.out.set 2 _
            have HBa : Hid (Below wo.heap.size wo (wr.setCell ⟨wo.heap.size, 2, none⟩ (.slice A4 (noEs s.exprs).length c4))) := (bthen5 HBs.out HQ.out.1 HBs.out.size).trans set_below
            have HXa : Hid (XesC (wr.setCell ⟨wo.heap.size, 2, none⟩ (.slice A4 (noEs s.exprs).length c4)) (Rng ws.heap.size (wr.setCell ⟨wo.heap.size, 2, none⟩ (.slice A4 (noEs s.exprs).length c4)).heap.size) (noEs s.exprs) (.slice A4 (noEs s.exprs).length c4)) := (HOw.out.exs.same fun q hq => set_other q (by have := hq.1; have := HZs.out; omega)).morez fun q hq => ⟨hq.1, by rw [set_size]; exact hq.2⟩
            have HZa : Hid (ws.heap.size ≤ (wr.setCell ⟨wo.heap.size, 2, none⟩ (.slice A4 (noEs s.exprs).length c4)).heap.size) := by show _ ≤ _; rw [set_size]; exact HQ.out.1.size
            clear hce hcf HVq HOw hbq HQ HLx
            generalize wr.setCell ⟨wo.heap.size, 2, none⟩ (.slice A4 (noEs s.exprs).length c4) = wa at *
            have KB := HI.out s.body (.slice A2 s.body.length c2) wa (by have := (szS_body s).1; have := HSz.out; omega) HSm.out.2.1.1 HSm.out.2.1.2 ((HB1.out.same (same_below HBa.out HR.out.1.size)).morez fun q hq => Nat.lt_of_lt_of_le hq (Nat.le_trans HR.out.1.size HBa.out.size))
            have HKB := Lib.hid KB
            have x3 := (HVa.out.cell 3 _ rfl).1
            clear KB
            go_wp2_with fail
            with_reducible refine HKB.out.mono ?_
            rintro E wb ⟨Vb, rfl, hVb, bb⟩
            obtain ⟨B2, d2, hd2⟩ := xssC_slice hVb
            subst hd2
            have HVb := Lib.hid (HVa.out.of (bb.block wo.heap.size (HVa.out.lt (by simp))))
            have HBb := Lib.hid (HBa.out.trans (bb.mono HBa.out.size))
            have HXb : Hid (XesC wb (Rng ws.heap.size wb.heap.size) (noEs s.exprs) (.slice A4 (noEs s.exprs).length c4)) := (HXa.out.same fun q hq => bb.block q hq.2).morez fun q hq => ⟨hq.1, Nat.lt_of_lt_of_le hq.2 bb.size⟩
            have HYb : Hid (XssC wb (Rng ws.heap.size wb.heap.size) (noSs s.body) (.slice B2 (noSs s.body).length d2)) := hVb.morez fun q hq => ⟨Nat.le_trans HZa.out hq.1, hq.2⟩
            have HZb : Hid (ws.heap.size ≤ wb.heap.size) := Nat.le_trans HZa.out bb.size
            obtain ⟨hce, hcf⟩ := HVb.out.cell 3 _ rfl
            clear hVb bb x3 HKB HXa HVa HBa HZa
            go_upto_region 14 with fail
            have HVc : Hid (VarAt (wb.setCell ⟨wo.heap.size, 3, none⟩ (.slice B2 (noSs s.body).length d2)) wo.heap.size [.int .i64 s.op, .string (strN s.text), .slice A4 (noEs s.exprs).length c4, .slice B2 (noSs s.body).length d2, .slice A3 s.els.length c3, .int .i64 0]) := HVb.out.set 3 _
            have HBc : Hid (Below wo.heap.size wo (wb.setCell ⟨wo.heap.size, 3, none⟩ (.slice B2 (noSs s.body).length d2))) := HBb.out.trans set_below
            have HXc : Hid (XesC (wb.setCell ⟨wo.heap.size, 3, none⟩ (.slice B2 (noSs s.body).length d2)) (Rng ws.heap.size (wb.setCell ⟨wo.heap.size, 3, none⟩ (.slice B2 (noSs s.body).length d2)).heap.size) (noEs s.exprs) (.slice A4 (noEs s.exprs).length c4)) := (HXb.out.same fun q hq => set_other q (by have := hq.1; have := HZs.out; omega)).morez fun q hq => ⟨hq.1, by rw [set_size]; exact hq.2⟩
            have HYc : Hid (XssC (wb.setCell ⟨wo.heap.size, 3, none⟩ (.slice B2 (noSs s.body).length d2)) (Rng ws.heap.size (wb.setCell ⟨wo.heap.size, 3, none⟩ (.slice B2 (noSs s.body).length d2)).heap.size) (noSs s.body) (.slice B2 (noSs s.body).length d2)) := (HYb.out.same fun q hq => set_other q (by have := hq.1; have := HZs.out; omega)).morez fun q hq => ⟨hq.1, by rw [set_size]; exact hq.2⟩
            have HZc : Hid (ws.heap.size ≤ (wb.setCell ⟨wo.heap.size, 3, none⟩ (.slice B2 (noSs s.body).length d2)).heap.size) := by show _ ≤ _; rw [set_size]; exact HZb.out
            clear hce hcf HXb HYb HVb HBb HZb
            generalize wb.setCell ⟨wo.heap.size, 3, none⟩ (.slice B2 (noSs s.body).length d2) = wc at *
            have KF := HI.out s.els (.slice A3 s.els.length c3) wc (by have := (szS_body s).2; have := HSz.out; omega) HSm.out.2.2.1 HSm.out.2.2.2 ((HF1.out.same (same_below HBc.out HR.out.1.size)).morez fun q hq => Nat.lt_of_lt_of_le hq (Nat.le_trans HR.out.1.size HBc.out.size))
            have HKF := Lib.hid KF
            have x4 := (HVc.out.cell 4 _ rfl).1
            clear KF
            go_wp2_with fail
            with_reducible refine HKF.out.mono ?_
            rintro E wd ⟨Vf, rfl, hVf, bd⟩
            obtain ⟨B3, d3, hd3⟩ := xssC_slice hVf
            subst hd3
            have HVd := Lib.hid (HVc.out.of (bd.block wo.heap.size (HVc.out.lt (by simp))))
            have HBd := Lib.hid (HBc.out.trans (bd.mono HBc.out.size))
            have HXd : Hid (XesC wd (Rng ws.heap.size wd.heap.size) (noEs s.exprs) (.slice A4 (noEs s.exprs).length c4)) := (HXc.out.same fun q hq => bd.block q hq.2).morez fun q hq => ⟨hq.1, Nat.lt_of_lt_of_le hq.2 bd.size⟩
            have HYd : Hid (XssC wd (Rng ws.heap.size wd.heap.size) (noSs s.body) (.slice B2 (noSs s.body).length d2)) := (HYc.out.same fun q hq => bd.block q hq.2).morez fun q hq => ⟨hq.1, Nat.lt_of_lt_of_le hq.2 bd.size⟩
            have HFd : Hid (XssC wd (Rng ws.heap.size wd.heap.size) (noSs s.els) (.slice B3 (noSs s.els).length d3)) := hVf.morez fun q hq => ⟨Nat.le_trans HZc.out hq.1, hq.2⟩
            have HZd : Hid (ws.heap.size ≤ wd.heap.size) := Nat.le_trans HZc.out bd.size
            obtain ⟨hce, hcf⟩ := HVd.out.cell 4 _ rfl
            clear hVf bd x4 HKF HXc HYc HVc HBc HZc
            go_upto_region 15 with fail
            have HVe : Hid (VarAt (wd.setCell ⟨wo.heap.size, 4, none⟩ (.slice B3 (noSs s.els).length d3)) wo.heap.size [.int .i64 s.op, .string (strN s.text), .slice A4 (noEs s.exprs).length c4, .slice B2 (noSs s.body).length d2, .slice B3 (noSs s.els).length d3, .int .i64 0]) := HVd.out.set 4 _
            have HBe : Hid (Below wo.heap.size wo (wd.setCell ⟨wo.heap.size, 4, none⟩ (.slice B3 (noSs s.els).length d3))) := HBd.out.trans set_below
            have HXe : Hid (XesC (wd.setCell ⟨wo.heap.size, 4, none⟩ (.slice B3 (noSs s.els).length d3)) (Rng ws.heap.size (wd.setCell ⟨wo.heap.size, 4, none⟩ (.slice B3 (noSs s.els).length d3)).heap.size) (noEs s.exprs) (.slice A4 (noEs s.exprs).length c4)) := (HXd.out.same fun q hq => set_other q (by have := hq.1; have := HZs.out; omega)).morez fun q hq => ⟨hq.1, by rw [set_size]; exact hq.2⟩
            have HYe : Hid (XssC (wd.setCell ⟨wo.heap.size, 4, none⟩ (.slice B3 (noSs s.els).length d3)) (Rng ws.heap.size (wd.setCell ⟨wo.heap.size, 4, none⟩ (.slice B3 (noSs s.els).length d3)).heap.size) (noSs s.body) (.slice B2 (noSs s.body).length d2)) := (HYd.out.same fun q hq => set_other q (by have := hq.1; have := HZs.out; omega)).morez fun q hq => ⟨hq.1, by rw [set_size]; exact hq.2⟩
            have HFe : Hid (XssC (wd.setCell ⟨wo.heap.size, 4, none⟩ (.slice B3 (noSs s.els).length d3)) (Rng ws.heap.size (wd.setCell ⟨wo.heap.size, 4, none⟩ (.slice B3 (noSs s.els).length d3)).heap.size) (noSs s.els) (.slice B3 (noSs s.els).length d3)) := (HFd.out.same fun q hq => set_other q (by have := hq.1; have := HZs.out; omega)).morez fun q hq => ⟨hq.1, by rw [set_size]; exact hq.2⟩
            clear hce hcf HXd HYd HFd HVd HBd HZd
            generalize wd.setCell ⟨wo.heap.size, 4, none⟩ (.slice B3 (noSs s.els).length d3) = we at *
            obtain ⟨z0, _⟩ := HVe.out.cell 0 _ rfl
            obtain ⟨z1, _⟩ := HVe.out.cell 1 _ rfl
            obtain ⟨z2, _⟩ := HVe.out.cell 2 _ rfl
            obtain ⟨z3, _⟩ := HVe.out.cell 3 _ rfl
            obtain ⟨z4, _⟩ := HVe.out.cell 4 _ rfl
            obtain ⟨z5, _⟩ := HVe.out.cell 5 _ rfl
            obtain ⟨os, o1, o2, o3, o4⟩ := (HR.out.2.below HBe.out).below (below_alloc we (.cells #[.int .i64 s.op, .string (strN s.text), .slice A4 (noEs s.exprs).length c4, .slice B2 (noSs s.body).length d2, .slice B3 (noSs s.els).length d3, .int .i64 0] 48))
            have HO1 := Lib.hid o1
            have HO2 := Lib.hid o2
            have HO3 := Lib.hid o3
            have HO4 := Lib.hid o4
            have HD : Hid (∀ q, Rng ws.heap.size we.heap.size q → Dz w.heap.size (.slice A0 (noSs (l.take k)).length c0) (we.alloc (.cells #[.int .i64 s.op, .string (strN s.text), .slice A4 (noEs s.exprs).length c4, .slice B2 (noSs s.body).length d2, .slice B3 (noSs s.els).length d3, .int .i64 0] 48)) q) := fun q hq => ⟨⟨by have := hq.1; have := HW0.out.size; omega, fun e2 => by
              obtain ⟨os', _, o2', _⟩ := HR.out.2
              have h1 := (o2'.lt q e2.symm).2
              have h2 := hq.1
              have h3 := HZs.out
              omega⟩, Nat.lt_of_lt_of_le hq.2 (by simp)⟩
            have HXz : Hid (XesC (we.alloc (.cells #[.int .i64 s.op, .string (strN s.text), .slice A4 (noEs s.exprs).length c4, .slice B2 (noSs s.body).length d2, .slice B3 (noSs s.els).length d3, .int .i64 0] 48)) (Dz w.heap.size (.slice A0 (noSs (l.take k)).length c0) (we.alloc (.cells #[.int .i64 s.op, .string (strN s.text), .slice A4 (noEs s.exprs).length c4, .slice B2 (noSs s.body).length d2, .slice B3 (noSs s.els).length d3, .int .i64 0] 48))) (noEs s.exprs) (.slice A4 (noEs s.exprs).length c4)) := (HXe.out.same fun q hq => (below_alloc we _).block q hq.2).morez HD.out
            have HYz : Hid (XssC (we.alloc (.cells #[.int .i64 s.op, .string (strN s.text), .slice A4 (noEs s.exprs).length c4, .slice B2 (noSs s.body).length d2, .slice B3 (noSs s.els).length d3, .int .i64 0] 48)) (Dz w.heap.size (.slice A0 (noSs (l.take k)).length c0) (we.alloc (.cells #[.int .i64 s.op, .string (strN s.text), .slice A4 (noEs s.exprs).length c4, .slice B2 (noSs s.body).length d2, .slice B3 (noSs s.els).length d3, .int .i64 0] 48))) (noSs s.body) (.slice B2 (noSs s.body).length d2)) := (HYe.out.same fun q hq => (below_alloc we _).block q hq.2).morez HD.out
            have HFz : Hid (XssC (we.alloc (.cells #[.int .i64 s.op, .string (strN s.text), .slice A4 (noEs s.exprs).length c4, .slice B2 (noSs s.body).length d2, .slice B3 (noSs s.els).length d3, .int .i64 0] 48)) (Dz w.heap.size (.slice A0 (noSs (l.take k)).length c0) (we.alloc (.cells #[.int .i64 s.op, .string (strN s.text), .slice A4 (noEs s.exprs).length c4, .slice B2 (noSs s.body).length d2, .slice B3 (noSs s.els).length d3, .int .i64 0] 48))) (noSs s.els) (.slice B3 (noSs s.els).length d3)) := (HFe.out.same fun q hq => (below_alloc we _).block q hq.2).morez HD.out
            have HN1 : Hid (∀ (j : Nat) (v : Value), ([.int .i64 s.op, .string (strN s.text), .slice A4 (noEs s.exprs).length c4, .slice B2 (noSs s.body).length d2, .slice B3 (noSs s.els).length d3, .int .i64 0] : List Value)[j]? = some v → (we.alloc (.cells #[.int .i64 s.op, .string (strN s.text), .slice A4 (noEs s.exprs).length c4, .slice B2 (noSs s.body).length d2, .slice B3 (noSs s.els).length d3, .int .i64 0] 48)).cell? ((Addr.mk we.heap.size 0 none).add j) = some v) := fun j v hv => by
              rw [Addr.add_mid]
              exact range_of (cs := [.int .i64 s.op, .string (strN s.text), .slice A4 (noEs s.exprs).length c4, .slice B2 (noSs s.body).length d2, .slice B3 (noSs s.els).length d3, .int .i64 0]) (heap_alloc_new we _) j v hv
            have HWe : Hid (Below w.heap.size w (we.alloc (.cells #[.int .i64 s.op, .string (strN s.text), .slice A4 (noEs s.exprs).length c4, .slice B2 (noSs s.body).length d2, .slice B3 (noSs s.els).length d3, .int .i64 0] 48))) := (bthen5 HR.out.1 HBe.out HR.out.1.size).alloc (bthen5 HR.out.1 HBe.out HR.out.1.size).size _
            have HSz3 : Hid (w.heap.size ≤ (we.alloc (.cells #[.int .i64 s.op, .string (strN s.text), .slice A4 (noEs s.exprs).length c4, .slice B2 (noSs s.body).length d2, .slice B3 (noSs s.els).length d3, .int .i64 0] 48)).heap.size) := HWe.out.size
            clear o1 o2 o3 o4 HXe HYe HFe HBe HVe HD
            go_wp2_with (at_builtin; refine wpList_append_one _ rfl (.tmp 45) (.tmp 47) 34 rfl w.heap.size 48 j0 _ 6 104 Tryz.underlying34 hj hy0 hy1 hy2 rfl (by omega) _ _ _ rfl HO2.out ⟨we.heap.size, 0, none⟩ 1 [.int .i64 s.op, .string (strN s.text), .slice A4 (noEs s.exprs).length c4, .slice B2 (noSs s.body).length d2, .slice B3 (noSs s.els).length d3, .int .i64 0] rfl rfl HN1.out one6 (by rw [HLs.out]; omega) (by rw [HLs.out]; unfold maxLen; omega) HSz3.out ?_; intro V5 u5 ho5 hg5 hv5; refine Hid.out ?_)
            refine Lib.hid ?_
            have hop' : (noS s).op = s.op ∧ (noS s).text = s.text ∧ (noS s).exprs = noEs s.exprs ∧ (noS s).body = noSs s.body ∧ (noS s).els = noSs s.els ∧ (noS s).place = 0 := by cases s; exact ⟨rfl, rfl, rfl, rfl, rfl, rfl⟩
            have HOk : Hid (OwS w.heap.size u5 (noSs (l.take (k + 1))) V5) := by
              show OwS _ _ _ _
              obtain ⟨h1, h2, h3, h4, h5, h6⟩ := hop'
              rw [HTk.out]
              refine OwS.push HO1.out HO2.out HO3.out HO4.out rfl ho5 ?_ hg5 hv5 ?_ (k := ⟨.slice A4 (noEs s.exprs).length c4, .slice B2 (noSs s.body).length d2, .slice B3 (noSs s.els).length d3⟩) ?_ ?_ ?_
              · unfold xsC
                rw [h1, h2, h6]
              · rw [h2]; exact HBy.out
              · rw [h3]; exact HXz.out
              · rw [h4]; exact HYz.out
              · rw [h5]; exact HFz.out
            have HB5 : Hid (Below w.heap.size w u5) := HWe.out.grown hg5 HWe.out.size (fun b hb => (HO2.out.lt b hb).1)
            obtain ⟨A5, c5, rfl⟩ := own_shape ho5
            clear ho5 hg5 hv5 HO1 HO2 HO3 HO4 HN1 HSz3 HXz HYz HFz hop' z0 z1 z2 z3 z4 z5
            go_wp2
            go_roundw
            case rel => exact ⟨k + 1, by omega, by go_num, HB5.out, HOk.out⟩
            case measure => simp [intOf]; omega
      · obtain rfl : k = l.length := by omega
        have hown := HR.out.2
        rw [List.take_length] at hown
        have HOw := Lib.hid hown.sts
        rw [show (noSs (List.take l.length l)) = noSs l by rw [List.take_length]]
        have HB5 := HR.out.1
        go_wp2
        go_ret
        exact ⟨_, rfl, HOw.out, HB5⟩
end Go.Proofs.YtfcpabhkconjmaaGreatDoor
