/- The document's Put: what it returns of a module. Conditions: none beyond what modules are. -/
import Derived.Test.YtecjkmemihmkcaaDoorYe
import Derived.Test.YtecjkmemihmkcaaDoorZg
namespace Go.Proofs.YtecjkmemihmkcaaDoor
set_option maxRecDepth 100000
open Go.RowKit
set_option linter.unusedSimpArgs false
set_option linter.unusedVariables false

set_option maxHeartbeats 400000 in
theorem refPutNumO (n : Int) (w : World) :
    Calls Tryd.prog 27 #[.int .i64 n] w fun e w' => ∃ v, e = .returned v ∧ w'.ownsRow w.heap.size 5 1 v 8 (cellsOf (be n 7 8)) ∧ Below w.heap.size w w' := by
  obtain ⟨i0, hi, hz0, hz1, hz2⟩ := info_parts info5
  go_enter Tryd.func27, Tryd.ntmps27
  go_wp2
  go_loopw [3, 4] (fun v i wr => ∃ k : Nat, k ≤ 8 ∧ i = .int .i64 (56 - 8 * (k : Int)) ∧ wr.ownsRow w.heap.size 5 1 v (0 + k) ([] ++ cellsOf (be n 7 k)) ∧ Below w.heap.size w wr) (fun _ i _ => ((intOf i) + 8).toNat)
  case atStart => exact ⟨0, by omega, by simp, World.ownsRow_nil _ _ _ _, Below.refl _ _⟩
  case round =>
    obtain ⟨k, hk, rfl, ho, hb⟩ := hrel
    have hsz := hb.size
    by_cases hlt : k < 8
    · go_wp2_with (first | (at_builtin; refine wpList_append_own _ rfl (.tmp 9) (.tmp 14) 26 rfl w.heap.size 5 i0 (.int .u8 0) 1 1 Tryd.underlying26 hi hz0 hz1 hz2 rfl (by decide) _ _ _ rfl (ho.alloc _) ⟨wr.heap.size, 0, none⟩ 1 1 [.int .u8 (n / 2 ^ (56 - 8 * k) % 256)] rfl rfl ?c1 ?c2 ?c3 ?c4 ?c5 ?_))
      case c1 =>
        intro j u hj
        match j, hj with
        | 0, hj => simp at hj; subst hj; simp [Addr.add]
      case c2 => intro u hu; simp at hu; subst hu; rfl
      case c3 => unfold maxLen; omega
      case c4 => omega
      case c5 => simp; omega
      intro v' w1 h1 hg _
      rw [show 56 - 8 * k = 8 * (7 - k) by omega] at h1
      have R := own_step (m := 0) (xs := []) (v' := v') hb (Nat.le_refl _) ho (by simpa using h1) hg
      clear h1 hg ho
      go_wp2
      go_roundw
      case rel => exact ⟨k + 1, by omega, by go_num, R.1, R.2⟩
      case measure => simp [intOf]; omega
    · have hge : 8 ≤ k := by omega
      obtain rfl : k = 8 := by omega
      have ho2 : wr.ownsRow w.heap.size 5 1 u3 8 (cellsOf (be n 7 8)) := by simpa using ho
      clear ho
      go_wp2
      go_ret
      exact ⟨_, rfl, ho2, hb⟩

set_option maxHeartbeats 3200000 in
theorem refPut (m : Md) (V : Value) (w : World) (h : ModV w w.heap.size m V) (hn : ∀ c ∈ m.codes, Byt c.name) : Calls Tryd.prog 13 #[V] w (PutGot (okMd m) (mdB m) w) := by
  have HM := Lib.hid h
  obtain ⟨C, T, rfl, hC, hT⟩ := h
  obtain ⟨AC, cC, vs, rfl, p1, p2, p3, p4⟩ := hC
  obtain ⟨AT, cT, rfl, q1, q2, q3⟩ := hT
  have HL := Lib.hid p3
  have HS := Lib.hid p4
  have HG := Lib.hid q3
  have HN := Lib.hid hn
  clear p3 p4 q3 hn
  unfold maxLen at p2 q2
  obtain ⟨i0, hi, hz0, hz1, hz2⟩ := info_parts info5
  have HW : Hid (Below w.heap.size w (w.alloc (.cells #[.slice AC m.codes.length cC, .slice AT m.texts.length cT] 25))) := Lib.hid ((Below.refl _ _).alloc (Nat.le_refl _) _)
  have K1 := Lib.hid (refRight m _ _ ((HM.out.below HW.out).more HW.out.size))
  have CE : Hid (∀ w', Below (w.heap.size + 1) (w.alloc (.cells #[.slice AC m.codes.length cC, .slice AT m.texts.length cT] 25)) w' → w'.cell? ⟨w.heap.size, 0, none⟩ = some (.slice AC m.codes.length cC) ∧ w'.cell? ⟨w.heap.size, 1, none⟩ = some (.slice AT m.texts.length cT)) := fun w' hb => by
    have hx : w'.heap[w.heap.size]? = some (.cells #[.slice AC m.codes.length cC, .slice AT m.texts.length cT] 25) := by rw [hb.block _ (Nat.lt_succ_self _)]; exact heap_alloc_new w _
    exact ⟨by rw [cell_of_row _ _ _ _ _ _ hx]; rfl, by rw [cell_of_row _ _ _ _ _ _ hx]; rfl⟩
  have HWS : Hid ((w.alloc (.cells #[.slice AC m.codes.length cC, .slice AT m.texts.length cT] 25)).heap.size = (w.heap.size + 1)) := Lib.hid (World.size_alloc _ _)
  have cc0 := (CE.out _ (Below.refl _ _)).1
  have cc1 := (CE.out _ (Below.refl _ _)).2
  go_enter Tryd.func13, Tryd.ntmps13
  go_wp2_with fail
  clear cc0 cc1
  refine K1.out.mono ?_
  clear K1
  rintro e w1 ⟨rfl, hb1⟩
  have B1 : Hid (Below w.heap.size w w1) := Lib.hid (HW.out.trans (hb1.mono HW.out.size))
  have C1 : Hid (Below (w.heap.size + 1) (w.alloc (.cells #[.slice AC m.codes.length cC, .slice AT m.texts.length cT] 25)) w1) := Lib.hid (hb1.mono (by have := HWS.out; omega))
  have d0 := (CE.out _ C1.out).1
  clear hb1
  generalize hWZ : (w.alloc (.cells #[.slice AC m.codes.length cC, .slice AT m.texts.length cT] 25)) = WZ at *
  clear hWZ
  cases hq : okMd m with
  | false =>
    go_wp2
    go_ret2
    exact ⟨B1.out, .inr ⟨hq, rfl⟩⟩
  | true =>
    obtain ⟨h1, h2, h3, h4⟩ := okMd_is hq
    have h3 := List.all_eq_true.1 h3
    have hx := okTexts hq
    have HO := Lib.hid h3
    have HZ := Lib.hid (cdsN_le h3)
    have hzt := szX_le hx _ (Nat.le_refl _)
    have HX : Hid (∀ l ∈ m.texts, l.length ≤ 65536) := fun l hl => by have := hx l hl; omega
    have HLN := Lib.hid (mdB_len m)
    have hzall := HZ.out m.codes.length (Nat.le_refl _)
    rw [List.take_length] at hzall
    have hs1 : (w.heap.size + 1) ≤ w1.heap.size := by have := C1.out.size; have := HWS.out; omega
    have HQ := Lib.hid hq
    clear h3 h4 hx hq HM
    go_wp2_with fail
    refine (refPutNumO (m.codes.length : Int) w1).mono ?_
    rintro e w2 ⟨v2, rfl, ho2, hb2⟩
    have C2 := Lib.hid (C1.out.trans (hb2.mono hs1))
    have O2 := Lib.hid (own_mono ho2 hs1)
    have e0 := (CE.out _ C2.out).1
    clear ho2 hb2 d0 C1 B1 hs1
    go_wp2_with fail
    go_loopw [5, 6] (fun v i wr => ∃ k : Nat, k ≤ m.codes.length ∧ i = .int .i64 k ∧ wr.ownsRow (w.heap.size + 1) 5 1 v (8 + cdsN (m.codes.take k)) (cellsOf (be (m.codes.length : Int) 7 8 ++ (m.codes.take k).flatMap cdB)) ∧ Below (w.heap.size + 1) WZ wr) (fun _ i _ => m.codes.length - (intOf i).toNat)
    case atStart => exact ⟨0, Nat.zero_le _, rfl, by simpa [cdsN] using O2.out, C2.out⟩
    case round =>
      clear O2 e0 C2
      obtain ⟨k, hk, rfl, ho, hb⟩ := hrel
      have hsz := HZ.out k hk
      have hwr : (w.heap.size + 1) ≤ wr.heap.size := by have := hb.size; have := HWS.out; omega
      have HB := Lib.hid hb
      have HOW := Lib.hid ho
      have d0 := (CE.out _ hb).1
      clear hb ho
      have HBW : Hid (Below w.heap.size w wr) := Lib.hid (HW.out.trans (HB.out.mono (Nat.le_succ _)))
      by_cases hkl : k < m.codes.length
      · obtain ⟨x, hx⟩ : ∃ x, m.codes[k]? = some x := ⟨_, List.getElem?_eq_getElem hkl⟩
        have hmem := List.mem_of_getElem? hx
        obtain ⟨g1, g2, g3, _⟩ := okCd_is (HO.out x hmem)
        have HXN := Lib.hid (cdsN_next hx)
        have HXB := Lib.hid (flat_snoc cdB hx)
        obtain ⟨P, I, hP, hI, hget⟩ := HS.out.get hx
        obtain ⟨AP, cP, rfl, r1, r2, r3⟩ := hP
        obtain ⟨AI, cI, rfl, s1, s2, s3⟩ := hI
        obtain ⟨b, o, rfl, hBb, hcc⟩ := lies_flat HL.out (hget 0 _ rfl)
        have HR : Hid (wr.rangeAt b (o + k * 5) (coC x (.slice AP x.params.length cP) (.slice AI x.instrs.length cI))) := fun j u hu => by
          show wr.cell? ⟨b, o + k * 5 + j, none⟩ = some u
          rw [Nat.add_assoc, HBW.out.cell hBb]
          exact hcc _ _ (hget j u hu)
        have hnx := HN.out x hmem
        obtain ⟨MM, hMM⟩ : ∃ n : Nat, n = 8 + cdsN (m.codes.take k) := ⟨_, rfl⟩
        obtain ⟨XS, hXS⟩ : ∃ l : List Value, l = cellsOf (be (m.codes.length : Int) 7 8 ++ (m.codes.take k).flatMap cdB) := ⟨_, rfl⟩
        rw [← hMM, ← hXS] at HOW
        have hmm : MM ≤ 20000000 := by omega
        have HMM := Lib.hid hMM
        have HXS := Lib.hid hXS
        clear hMM hXS hsz hzall
        have HPL := Lib.hid r3
        have HIL := Lib.hid s3
        clear r3 s3 hget hx hcc hmem
        unfold maxLen at r2 s2
        have PK0 : Pk WZ (w.heap.size + 1) wr.heap.size 46 #[.string (strOfNums x.name), .slice AP x.params.length cP, .int .i64 x.result, .int .i64 x.slots, .slice AI x.instrs.length cI] u5 (wr.alloc (.cells #[.string (strOfNums x.name), .slice AP x.params.length cP, .int .i64 x.result, .int .i64 x.slots, .slice AI x.instrs.length cI] 46)) := ⟨heap_alloc_new wr _, own_not HOW.out (Nat.le_refl _), HB.out.alloc hwr _, by rw [World.size_alloc]; omega⟩
        have HO0 := own_below HOW.out ((Below.refl _ _).alloc (Nat.le_refl wr.heap.size) (.cells #[.string (strOfNums x.name), .slice AP x.params.length cP, .int .i64 x.result, .int .i64 x.slots, .slice AI x.instrs.length cI] 46)) (Nat.le_refl _)
        obtain ⟨cn, w3, rr, n1, n2, n3, n4⟩ := run_bytes (wr.alloc (.cells #[.string (strOfNums x.name), .slice AP x.params.length cP, .int .i64 x.result, .int .i64 x.slots, .slice AI x.instrs.length cI] 46)) x.name hnx (by unfold maxLen; omega)
        have c0 := PK0.cell (k := 0) rfl
        have PK1 := Lib.hid (PK0.under n3)
        have HO1 := Lib.hid (own_below HO0 n3 (Nat.le_refl _))
        have KB := Lib.hid (refPutBytes _ cn x.name w3 n4 (by omega))
        rw [World.size_alloc] at rr
        simp only [World.size_alloc] at KB
        clear PK0 HO0 n3 n4
        go_wp2_with (first | (refine wpList_load_mid rfl 46 (.tmp 32) rfl b (o + k * 5) rfl [.string (strOfNums x.name), .slice AP x.params.length cP, .int .i64 x.result, .int .i64 x.slots, .slice AI x.instrs.length cI] _ HR.out Tryd.underlying46 rfl info46s ?_; refine Hid.out ?_) | fail)
        refine Lib.hid ?_
        go_wp2_with fail
        refine KB.out.mono ?_
        clear KB rr c0 d0
        rintro e w4 ⟨v4, rfl, ho, hb⟩
        obtain ⟨A4, c4, rfl, k1, k2, k3⟩ := own_lies ho
        have PK2 := Lib.hid (PK1.out.under hb)
        have HO2 := Lib.hid (own_below HO1.out hb (Nat.le_refl _))
        have HS4 := Lib.hid k3
        have HL4 : Hid ((be (x.name.length : Int) 3 4 ++ x.name).length = 4 + x.name.length) := Lib.hid (by simp [be_length])
        generalize hLL : (be (x.name.length : Int) 3 4 ++ x.name).length = L at *
        have HLL := Lib.hid hLL
        have hL : L = 4 + x.name.length := HL4.out
        have HLC : Hid ((cellsOf (be (x.name.length : Int) 3 4 ++ x.name)).length = L * 1) := Lib.hid (by rw [hL]; simp [be_length])
        clear hL
        clear hLL ho hb k3 PK1 HO1
        unfold maxLen at k2
        go_wp2_with fail
        have PKd := Lib.hid (PK2.out.under ((Below.refl _ _).drew))
        have HOd := Lib.hid (own_below HO2.out ((Below.refl _ _).drew) (Nat.le_refl _))
        have HSd := Lib.hid (HS4.out.below ((Below.refl _ _).drew))
        have hbd := PKd.out.hbase
        go_region_held3 (fun w' => w'.cell? ⟨wr.heap.size, 1, none⟩ = some (.slice AP x.params.length cP))
          (first | with_reducible exact PKd.out.cell (k := 1) rfl | with_reducible exact PK5.out.cell (k := 1) rfl | with_reducible exact PB.out.cell (k := 1) rfl | with_reducible exact PK7.out.cell (k := 1) rfl)
          (first
            | (refine step_append_gro _ rfl (.tmp 43) (.tmp 47) 26 rfl (w.heap.size + 1) 5 i0 (.int .u8 0) 1 1 Tryd.underlying26 hi hz0 hz1 hz2 rfl (by omega) _ _ _ rfl OB.out wb.heap.size Ab 8 cb (cellsOf (be (x.params.length : Int) 7 8)) rfl (by simp [be_length]) LB.out (bytes_oneCell _) (by have := HL4.out; unfold maxLen; omega) (by have := HL4.out; omega) PB.out.hbase ?_; intro v7 w7 ho hg; have PK7 := Lib.hid (PB.out.gro OB.out hg); have O7 := Lib.hid ho; clear ho hg)
            | (refine step_append_gro _ rfl (.tmp 41) (.tmp 42) 26 rfl (w.heap.size + 1) 5 i0 (.int .u8 0) 1 1 Tryd.underlying26 hi hz0 hz1 hz2 rfl (by omega) _ _ _ rfl HOd.out w4.heap.size A4 L c4 (cellsOf (be (x.name.length : Int) 3 4 ++ x.name)) rfl HLC.out HSd.out (bytes_oneCell _) (by have := HL4.out; unfold maxLen; omega) (by have := HL4.out; omega) hbd ?_; intro v5 w5 ho hg; have PK5 := Lib.hid (PKd.out.gro HOd.out hg); have O5 := Lib.hid ho; clear ho hg)
            | (go_at_call 27; refine (refPutNumO _ _).mono ?_; rintro e wb ⟨vb, rfl, ho, hb⟩; obtain ⟨Ab, cb, rfl, _, hcb, hl⟩ := own_lies ho; have PB := Lib.hid (PK5.out.under hb); have OB := Lib.hid (own_below O5.out hb (Nat.le_refl _)); have LB := Lib.hid hl; clear ho hb hl; unfold maxLen at hcb))
        have HXO : Hid (w7.ownsRow (w.heap.size + 1) 5 1 v7 (MM + 12 + x.name.length) (XS ++ cellsOf (be (x.name.length : Int) 3 4 ++ (x.name ++ be (x.params.length : Int) 7 8)))) := Lib.hid (own_eq O7.out (by have := HL4.out; omega) (by simp [cellsOf]))
        clear PKd HOd HSd hbd PK5 O5 PB OB LB O7 HO2 PK2 HS4 HLL HL4 HLC
        go_wp2_with fail
        generalize wr = wo at *
        go_loopw [5, 10] (fun v i wx => ∃ j : Nat, j ≤ x.params.length ∧ i = .int .i64 j ∧ wx.ownsRow (w.heap.size + 1) 5 1 v (MM + 12 + x.name.length + 8 * j) (XS ++ cellsOf (be (x.name.length : Int) 3 4 ++ (x.name ++ be (x.params.length : Int) 7 8)) ++ cellsOf ((x.params.take j).flatMap nuB)) ∧ Pk WZ (w.heap.size + 1) wo.heap.size 46 #[.string (strOfNums x.name), .slice AP x.params.length cP, .int .i64 x.result, .int .i64 x.slots, .slice AI x.instrs.length cI] v wx) (fun _ i _ => x.params.length - (intOf i).toNat)
        case atStart => exact ⟨0, Nat.zero_le _, rfl, by simpa using HXO.out, PK7.out⟩
        case round =>
          clear HXO PK7
          obtain ⟨j, hj, rfl, ho, hpk⟩ := hrel
          by_cases hjl : j < x.params.length
          · obtain ⟨y, hy⟩ : ∃ y, x.params[j]? = some y := ⟨_, List.getElem?_eq_getElem hjl⟩
            obtain ⟨ad, rfl, hB2, hc0⟩ := HPL.out.2 j _ (tysV_at hy)
            have hlow : Below w.heap.size w wr := HW.out.trans (hpk.low.mono (Nat.le_succ _))
            have hc : wr.cell? (ad.add j) = some (.int .i64 y) := by rw [hlow.cell (by rw [addr_block]; exact hB2)]; exact hc0
            have HMI := Lib.hid (flat_snoc nuB hy)
            have HP1 := Lib.hid hpk
            have HO1 := Lib.hid ho
            have d1 := hpk.cell (k := 1) rfl
            have hji : (j : Int) < (x.params.length : Int) := by omega
            clear hy hc0 hlow ho hpk
            go_wp2_with fail
            refine (refPutNumO y _).mono ?_
            rintro e wna ⟨vna, rfl, ho, hb⟩
            obtain ⟨Ana, cna, rfl, _, hcma, hl⟩ := own_lies ho
            have PAa := Lib.hid (HP1.out.under hb)
            have OAa := Lib.hid (own_below HO1.out hb (Nat.le_refl _))
            have LAa := Lib.hid hl
            clear ho hb hl
            unfold maxLen at hcma
            go_wp2_with (at_builtin; (refine wpList_append_gro _ rfl (.tmp 56) (.tmp 62) 26 rfl (w.heap.size + 1) 5 i0 (.int .u8 0) 1 1 Tryd.underlying26 hi hz0 hz1 hz2 rfl (by omega) _ _ _ rfl OAa.out wna.heap.size Ana 8 cna (cellsOf (be y 7 8)) rfl (by simp [be_length]) LAa.out (bytes_oneCell _) (by unfold maxLen; omega) (by omega) PAa.out.hbase ?_); intro vaa waa ho hg; have Pa := Lib.hid (PAa.out.gro OAa.out hg); have Oa := Lib.hid ho; clear ho hg PAa OAa LAa)
            have HF : Hid (waa.ownsRow (w.heap.size + 1) 5 1 vaa (MM + 12 + x.name.length + 8 * (j + 1)) (XS ++ cellsOf (be (x.name.length : Int) 3 4 ++ (x.name ++ be (x.params.length : Int) 7 8)) ++ cellsOf ((x.params.take (j + 1)).flatMap nuB))) := Lib.hid (own_eq Oa.out (by omega) (by rw [HMI.out]; simp [cellsOf, nuB]))
            go_roundw
            case rel => exact ⟨j + 1, by omega, by go_num, HF.out, Pa.out⟩
            case measure => simp [intOf]; omega
          · obtain rfl : j = x.params.length := by omega
            rw [List.take_length] at ho
            have HO1 : Hid (wr.ownsRow (w.heap.size + 1) 5 1 u5 (MM + 12 + x.name.length + 8 * x.params.length) (XS ++ cellsOf (be (x.name.length : Int) 3 4 ++ (x.name ++ (be (x.params.length : Int) 7 8 ++ x.params.flatMap nuB))))) := Lib.hid (own_eq ho rfl (by simp [cellsOf]))
            have HP1 := Lib.hid hpk
            have d1 := hpk.cell (k := 1) rfl
            have d2 := hpk.cell (k := 2) rfl
            clear ho hpk hj
            go_wp2_with fail
            refine (refPutNumO x.result _).mono ?_
            rintro e wnr ⟨vnr, rfl, ho, hb⟩
            obtain ⟨Anr, cnr, rfl, _, hcmr, hl⟩ := own_lies ho
            have PAr := Lib.hid (HP1.out.under hb)
            have OAr := Lib.hid (own_below HO1.out hb (Nat.le_refl _))
            have LAr := Lib.hid hl
            clear ho hb hl
            unfold maxLen at hcmr
            go_wp2_with (at_builtin; (refine wpList_append_gro _ rfl (.tmp 64) (.tmp 67) 26 rfl (w.heap.size + 1) 5 i0 (.int .u8 0) 1 1 Tryd.underlying26 hi hz0 hz1 hz2 rfl (by omega) _ _ _ rfl OAr.out wnr.heap.size Anr 8 cnr (cellsOf (be x.result 7 8)) rfl (by simp [be_length]) LAr.out (bytes_oneCell _) (by unfold maxLen; omega) (by omega) PAr.out.hbase ?_); intro var war ho hg; have Pr := Lib.hid (PAr.out.gro OAr.out hg); have Or := Lib.hid ho; clear ho hg PAr OAr LAr; have d3 := Pr.out.cell (k := 3) rfl)
            clear d1 d2 HO1 HP1
            refine (refPutNumO x.slots _).mono ?_
            rintro e wns ⟨vns, rfl, ho, hb⟩
            obtain ⟨Ans, cns, rfl, _, hcms, hl⟩ := own_lies ho
            have PAs := Lib.hid (Pr.out.under hb)
            have OAs := Lib.hid (own_below Or.out hb (Nat.le_refl _))
            have LAs := Lib.hid hl
            clear ho hb hl
            unfold maxLen at hcms
            go_wp2_with (at_builtin; (refine wpList_append_gro _ rfl (.tmp 69) (.tmp 72) 26 rfl (w.heap.size + 1) 5 i0 (.int .u8 0) 1 1 Tryd.underlying26 hi hz0 hz1 hz2 rfl (by omega) _ _ _ rfl OAs.out wns.heap.size Ans 8 cns (cellsOf (be x.slots 7 8)) rfl (by simp [be_length]) LAs.out (bytes_oneCell _) (by unfold maxLen; omega) (by omega) PAs.out.hbase ?_); intro vas was ho hg; have Ps := Lib.hid (PAs.out.gro OAs.out hg); have Os := Lib.hid ho; clear ho hg PAs OAs LAs; have d4 := Ps.out.cell (k := 4) rfl)
            clear d3 Or Pr
            refine (refPutNumO (x.instrs.length : Int) _).mono ?_
            rintro e wnt ⟨vnt, rfl, ho, hb⟩
            obtain ⟨Ant, cnt, rfl, _, hcmt, hl⟩ := own_lies ho
            have PAt := Lib.hid (Ps.out.under hb)
            have OAt := Lib.hid (own_below Os.out hb (Nat.le_refl _))
            have LAt := Lib.hid hl
            clear ho hb hl
            unfold maxLen at hcmt
            go_wp2_with (at_builtin; (refine wpList_append_gro _ rfl (.tmp 74) (.tmp 78) 26 rfl (w.heap.size + 1) 5 i0 (.int .u8 0) 1 1 Tryd.underlying26 hi hz0 hz1 hz2 rfl (by omega) _ _ _ rfl OAt.out wnt.heap.size Ant 8 cnt (cellsOf (be (x.instrs.length : Int) 7 8)) rfl (by simp [be_length]) LAt.out (bytes_oneCell _) (by unfold maxLen; omega) (by omega) PAt.out.hbase ?_); intro vat wat ho hg; have Pt := Lib.hid (PAt.out.gro OAt.out hg); have Ot := Lib.hid ho; clear ho hg PAt OAt LAt)
            clear d4 Os Ps
            have HO2 : Hid (wat.ownsRow (w.heap.size + 1) 5 1 vat (MM + 36 + x.name.length + 8 * x.params.length) (XS ++ cellsOf (be (x.name.length : Int) 3 4 ++ (x.name ++ (be (x.params.length : Int) 7 8 ++ (x.params.flatMap nuB ++ (be x.result 7 8 ++ (be x.slots 7 8 ++ be (x.instrs.length : Int) 7 8)))))))) := Lib.hid (own_eq Ot.out (by omega) (by simp [cellsOf]))
            clear Ot
            go_loopw [5, 11] (fun v i wx => ∃ j : Nat, j ≤ x.instrs.length ∧ i = .int .i64 j ∧ wx.ownsRow (w.heap.size + 1) 5 1 v (MM + 36 + x.name.length + 8 * x.params.length + 16 * j) (XS ++ cellsOf (be (x.name.length : Int) 3 4 ++ (x.name ++ (be (x.params.length : Int) 7 8 ++ (x.params.flatMap nuB ++ (be x.result 7 8 ++ (be x.slots 7 8 ++ be (x.instrs.length : Int) 7 8)))))) ++ cellsOf ((x.instrs.take j).flatMap inB)) ∧ Pk WZ (w.heap.size + 1) wo.heap.size 46 #[.string (strOfNums x.name), .slice AP x.params.length cP, .int .i64 x.result, .int .i64 x.slots, .slice AI x.instrs.length cI] v wx) (fun _ i _ => x.instrs.length - (intOf i).toNat)
            case atStart => exact ⟨0, Nat.zero_le _, rfl, by simpa using HO2.out, Pt.out⟩
            case round =>
              clear HO2 Pt hjl
              obtain ⟨j, hj, rfl, ho, hpk⟩ := hrel
              by_cases hjl : j < x.instrs.length
              · obtain ⟨y, hy⟩ : ∃ y, x.instrs[j]? = some y := ⟨_, List.getElem?_eq_getElem hjl⟩
                have HMI := Lib.hid (flat_snoc inB hy)
                have hy2 := insV_at hy
                obtain ⟨b2, o2, rfl, hB2, hc2⟩ := lies_flat HIL.out hy2.1
                have hlow : Below w.heap.size w wr := HW.out.trans (hpk.low.mono (Nat.le_succ _))
                have eA : wr.cell? ⟨b2, o2 + j * 2, none⟩ = some (.int .i64 y.1) := by rw [hlow.cell hB2]; exact hc2 _ _ hy2.1
                have HIB : Hid (∀ z, Below w.heap.size w z → z.cell? ⟨b2, o2 + j * 2 + 1, none⟩ = some (.int .i64 y.2)) := fun z hz => by rw [hz.cell hB2, Nat.add_assoc]; exact hc2 _ _ hy2.2
                have HP1 := Lib.hid hpk
                have HO1 := Lib.hid ho
                have d4 := hpk.cell (k := 4) rfl
                have hji : (j : Int) < (x.instrs.length : Int) := by omega
                clear hy hy2 hc2 hlow ho hpk
                go_wp2_with fail
                refine (refPutNumO y.1 _).mono ?_
                rintro e wna ⟨vna, rfl, ho, hb⟩
                obtain ⟨Ana, cna, rfl, _, hcma, hl⟩ := own_lies ho
                have PAa := Lib.hid (HP1.out.under hb)
                have OAa := Lib.hid (own_below HO1.out hb (Nat.le_refl _))
                have LAa := Lib.hid hl
                clear ho hb hl
                unfold maxLen at hcma
                go_wp2_with (at_builtin; (refine wpList_append_gro _ rfl (.tmp 87) (.tmp 94) 26 rfl (w.heap.size + 1) 5 i0 (.int .u8 0) 1 1 Tryd.underlying26 hi hz0 hz1 hz2 rfl (by omega) _ _ _ rfl OAa.out wna.heap.size Ana 8 cna (cellsOf (be y.1 7 8)) rfl (by simp [be_length]) LAa.out (bytes_oneCell _) (by unfold maxLen; omega) (by omega) PAa.out.hbase ?_); intro vaa waa ho hg; have Pa := Lib.hid (PAa.out.gro OAa.out hg); have Oa := Lib.hid ho; clear ho hg PAa OAa LAa; have d4 := Pa.out.cell (k := 4) rfl; have eB := HIB.out _ (HW.out.trans (Pa.out.low.mono (Nat.le_succ _))))
                clear HO1 HP1
                refine (refPutNumO y.2 _).mono ?_
                rintro e wnc ⟨vnc, rfl, ho, hb⟩
                obtain ⟨Anc, cnc, rfl, _, hcmc, hl⟩ := own_lies ho
                have PAc := Lib.hid (Pa.out.under hb)
                have OAc := Lib.hid (own_below Oa.out hb (Nat.le_refl _))
                have LAc := Lib.hid hl
                clear ho hb hl
                unfold maxLen at hcmc
                go_wp2_with (at_builtin; (refine wpList_append_gro _ rfl (.tmp 96) (.tmp 103) 26 rfl (w.heap.size + 1) 5 i0 (.int .u8 0) 1 1 Tryd.underlying26 hi hz0 hz1 hz2 rfl (by omega) _ _ _ rfl OAc.out wnc.heap.size Anc 8 cnc (cellsOf (be y.2 7 8)) rfl (by simp [be_length]) LAc.out (bytes_oneCell _) (by unfold maxLen; omega) (by omega) PAc.out.hbase ?_); intro vac wac ho hg; have Pc := Lib.hid (PAc.out.gro OAc.out hg); have Oc := Lib.hid ho; clear ho hg PAc OAc LAc)
                have HF : Hid (wac.ownsRow (w.heap.size + 1) 5 1 vac (MM + 36 + x.name.length + 8 * x.params.length + 16 * (j + 1)) (XS ++ cellsOf (be (x.name.length : Int) 3 4 ++ (x.name ++ (be (x.params.length : Int) 7 8 ++ (x.params.flatMap nuB ++ (be x.result 7 8 ++ (be x.slots 7 8 ++ be (x.instrs.length : Int) 7 8)))))) ++ cellsOf ((x.instrs.take (j + 1)).flatMap inB))) := Lib.hid (own_eq Oc.out (by omega) (by rw [HMI.out]; simp [cellsOf, inB]))
                go_roundw
                case rel => exact ⟨j + 1, by omega, by go_num, HF.out, Pc.out⟩
                case measure => simp [intOf]; omega
              · obtain rfl : j = x.instrs.length := by omega
                rw [List.take_length] at ho
                have hfin : wr.ownsRow (w.heap.size + 1) 5 1 u5 (8 + cdsN (m.codes.take (k + 1))) (cellsOf (be (m.codes.length : Int) 7 8 ++ (m.codes.take (k + 1)).flatMap cdB)) := own_eq ho (by have := HMM.out; rw [HXN.out]; unfold cdN; omega) (by rw [HXS.out, HXB.out]; simp [cellsOf, cdB])
                have HFIN := Lib.hid hfin
                have HLOW := Lib.hid hpk.low
                have d4 := hpk.cell (k := 4) rfl
                clear ho hpk hfin
                go_wp2_with fail
                go_roundw
                case rel => exact ⟨k + 1, by omega, by go_num, HFIN.out, HLOW.out⟩
                case measure => simp [intOf]; omega
      · obtain rfl : k = m.codes.length := by omega
        have d1 := (CE.out _ HB.out).2
        have K2 := refPutRow AT cT m.texts wr ((HG.out.below HBW.out).more HBW.out.size) h2 m.texts.length (Nat.le_refl _) (fun k l _ hl => HX.out l (List.mem_of_getElem? hl)) (fun h => absurd h (Nat.lt_irrefl _))
        rw [if_pos rfl, if_pos rfl] at K2
        have K2 := Lib.hid K2
        rw [List.take_length] at HOW
        go_wp2_with fail
        refine K2.out.mono ?_
        clear K2 d0 d1
        rintro e w6 ⟨v6, rfl, ho, hb6⟩
        obtain ⟨A6, c6, rfl, t1, t2, t3⟩ := own_lies ho
        have O6 := Lib.hid (own_below HOW.out hb6 (Nat.le_refl _))
        have T6 := Lib.hid t3
        have B6 := Lib.hid (HBW.out.trans (hb6.mono HBW.out.size))
        have hwr6 := Nat.le_trans hwr hb6.size
        have HRL := Lib.hid (rowBytes_length m.texts)
        have hrb : (rowBytes m.texts).length ≤ 100000 := by rw [HRL.out]; omega
        have HRC : Hid ((cellsOf (rowBytes m.texts)).length = (rowBytes m.texts).length * 1) := Lib.hid (by simp)
        clear t3 hb6 ho
        unfold maxLen at t2
        go_wp2_with (at_builtin; (refine wpList_append_gro _ rfl (.tmp 111) (.tmp 112) 26 rfl (w.heap.size + 1) 5 i0 (.int .u8 0) 1 1 Tryd.underlying26 hi hz0 hz1 hz2 rfl (by omega) _ _ _ rfl O6.out w6.heap.size A6 (rowBytes m.texts).length c6 (cellsOf (rowBytes m.texts)) rfl HRC.out T6.out (bytes_oneCell _) (by unfold maxLen; omega) (by omega) hwr6 ?_); intro v7 w7 ho7 hg7)
        have B7 := Lib.hid (B6.out.trans ((hg7.below O6.out hwr6).mono (Nat.le_succ _)))
        have O7 : w7.ownsRow (w.heap.size + 1) 5 1 v7 (mdB m).length (cellsOf (mdB m)) := own_eq ho7 (by rw [HLN.out, HRL.out]; omega) (by simp [cellsOf, mdB])
        obtain ⟨A7, c7, rfl, z1, z2, z3⟩ := own_lies O7
        have O8 := Lib.hid (own_mono O7 (Nat.le_succ w.heap.size))
        clear O7 ho7 hg7
        go_wp2
        go_ret2
        exact ⟨B7.out, .inl ⟨HQ.out, A7, c7, rfl, z1, z2, z3, O8.out⟩⟩

end Go.Proofs.YtecjkmemihmkcaaDoor
