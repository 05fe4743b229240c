/- Check: the walk. Conditions: those in each theorem. -/
import Derived.Test.YtilmidjkjgeoeaaDoorWE
namespace Go.Proofs.YtilmidjkjgeoeaaDoor
open Go.RowKit Go.MapKept
set_option maxRecDepth 100000
set_option linter.unusedVariables false
set_option linter.unusedSimpArgs false
theorem info25s : (Tryd.prog.info? 25).map (·.size) = some 2 := by kernel_rfl
def ChecksQ (n : Int) (w : World) (r : Ending) (w' : World) : Prop := r = .returned (.int .i64 n) ∧ Below w.heap.size w w'
set_option maxHeartbeats 1600000 in
theorem checkC (m : Md) (V : Value) (w : World) (h : ModV w w.heap.size m V) (hf : MdFit m) (ht : Tab w) : Calls Tryd.prog 9 #[V] w (ChecksQ (checkM m) w) := by
  have HMV := Lib.hid h
  obtain ⟨C, T, rfl, hC, hT⟩ := h
  have HCV := Lib.hid hC
  obtain ⟨AC, cC, vs, rfl, p1, p2, p3, p4⟩ := hC
  obtain ⟨AT, cT, rfl, q1, q2, q3⟩ := hT
  have HL := Lib.hid (And.intro p3 p4)
  have B1 := below_alloc w (.cells #[.slice AC m.codes.length cC, .slice AT m.texts.length cT] 25)
  have A1 := heap_alloc_new w (.cells #[.slice AC m.codes.length cC, .slice AT m.texts.length cT] 25)
  have s1 : (w.alloc (.cells #[.slice AC m.codes.length cC, .slice AT m.texts.length cT] 25)).heap.size = w.heap.size + 1 := by simp
  have KR := Lib.hid (right m _ _ ((HMV.out.below B1).more (by rw [s1]; omega)))
  have HB1 := Lib.hid B1
  have HA1 := Lib.hid A1
  have HT := Lib.hid ht
  have HF := Lib.hid hf
  have HS1 := Lib.hid s1
  unfold maxLen at p2
  clear B1 A1 s1 p3 p4 q3 ht hf
  have HC1 := Lib.hid (fun h => check_right (m := m) h)
  have HC2 := Lib.hid (fun h hn => check_names (m := m) h HF.out hn)
  have HC3 := Lib.hid (fun h (c : Cd) hc hn => check_one (m := m) h (c := c) hc hn)
  have HC4 := Lib.hid (fun h hn ha => check_all (m := m) h HF.out hn ha)
  generalize checkM m = res at *
  go_enter Tryd.func9, Tryd.ntmps9
  go_upto_region 1 with fail
  generalize w.alloc (.cells #[.slice AC m.codes.length cC, .slice AT m.texts.length cT] 25) = w1 at *
  have HR1 : Hid (w1.rangeAt w.heap.size 0 [.slice AC m.codes.length cC, .slice AT m.texts.length cT]) := Lib.hid (rangeV_of (cs := [.slice AC m.codes.length cC, .slice AT m.texts.length cT]) HA1.out)
  go_wp2_with (first | (refine wpList_load_mid rfl 25 (.tmp 1) rfl w.heap.size 0 rfl [.slice AC m.codes.length cC, .slice AT m.texts.length cT] _ HR1.out Tryd.underlying25 rfl (by exact info25s) ?_) | fail)
  refine KR.out.mono ?_
  rintro r w2 ⟨rfl, hb2⟩
  have HB2 : Hid (Below (w.heap.size + 1) w1 w2) := by rw [← HS1.out]; exact hb2
  have HB02 : Hid (Below w.heap.size w w2) := Lib.hid (HB1.out.trans (HB2.out.mono (by omega)))
  have HSZ : Hid (w.heap.size < w2.heap.size) := Lib.hid (by have := HB2.out.size; have := HS1.out; omega)
  clear KR hb2
  by_cases hok : okMd m = true
  · rw [hok]
    have HOK := Lib.hid hok
    have c0 : w2.cell? ⟨w.heap.size, 0, none⟩ = some (.slice AC m.codes.length cC) := HB2.out.cell_is (by omega) (cell_at HA1.out rfl)
    have KD := Lib.hid (distinctC m.codes _ w2 ((HCV.out.below HB02.out).more (by have := HSZ.out; omega)))
    clear hok
    go_wp2_with fail
    refine KD.out.mono ?_
    rintro r w3 ⟨rfl, hb3⟩
    have HB3 : Hid (Below (w.heap.size + 1) w1 w3) := Lib.hid (HB2.out.trans (hb3.mono HSZ.out))
    clear KD hb3 c0
    by_cases hn : (m.codes.map nmOf).Nodup
    · rw [decide_eq_true hn]
      have HN := Lib.hid hn
      have c0 : w3.cell? ⟨w.heap.size, 0, none⟩ = some (.slice AC m.codes.length cC) := HB3.out.cell_is (by omega) (cell_at HA1.out rfl)
      clear hn
      go_wp2_with fail
      go_loopw [15] (fun i wr => ∃ k : Nat, i = .int .i64 k ∧ k ≤ m.codes.length ∧ Hid ((∀ j d, j < k → m.codes[j]? = some d → SafeC m d) ∧ Below (w.heap.size + 1) w1 wr)) (fun i _ => m.codes.length - (intOf i).toNat)
      case atStart => exact ⟨0, rfl, by omega, (by intro j d hj; omega), HB3.out⟩
      case round =>
        obtain ⟨k, rfl, hk, HQ⟩ := hrel
        by_cases hlt : k < m.codes.length
        · obtain ⟨d, hd⟩ : ∃ d, m.codes[k]? = some d := ⟨_, List.getElem?_eq_getElem hlt⟩
          obtain ⟨P, I, hP, hI, hc⟩ := HL.out.2.get hd
          obtain ⟨b, o, rfl, hb, hcl⟩ := lies_flat HL.out.1 (hc 0 _ rfl)
          have HBw : Hid (Below w.heap.size w wr) := Lib.hid (HB1.out.trans (HQ.out.2.mono (by omega)))
          have HR : Hid (wr.rangeAt b (o + k * 5) (coC d P I)) := Lib.hid (fun j v hv => by
            have := HBw.out.cell_is hb (hcl _ _ (hc j v hv))
            rwa [show o + (k * 5 + j) = o + k * 5 + j by omega] at this)
          have hkI : (k : Int) < (m.codes.length : Int) := by omega
          have HPI := Lib.hid (And.intro hP hI)
          obtain ⟨AP, cP, rfl⟩ := hP.is
          obtain ⟨AI, cI, rfl⟩ := hI.is
          have Z1 := heap_alloc_new wr (.cells #[.string ⟨#[]⟩, .slice none 0 0, .int .i64 0, .int .i64 0, .slice none 0 0] 30)
          have Z2 := below_alloc wr (.cells #[.string ⟨#[]⟩, .slice none 0 0, .int .i64 0, .int .i64 0, .slice none 0 0] 30)
          have HZ := Lib.hid (And.intro Z1 Z2)
          have HD := Lib.hid (And.intro hd (List.mem_of_getElem? hd))
          have lm : w.heap.size < wr.heap.size := by have := HQ.out.2.size; have := HS1.out; omega
          clear hc hcl hP hI Z1 Z2 hd
          go_upto_region 8 with (first | (refine wpList_load_mid rfl 30 (.tmp 17) rfl b (o + k * 5) rfl (coC d (.slice AP d.params.length cP) (.slice AI d.instrs.length cI)) _ HR.out Tryd.underlying30 rfl (by exact info30s) ?_) | (refine wpList_storeA info30s rfl (.tmp 4) (.tmp 18) rfl rfl wr.heap.size rfl (coC d (.slice AP d.params.length cP) (.slice AI d.instrs.length cI)) [.string ⟨#[]⟩, .slice none 0 0, .int .i64 0, .int .i64 0, .slice none 0 0] rfl rfl HZ.out.1 rfl (by intro u hu; simp [coC] at hu; rcases hu with rfl | rfl | rfl | rfl | rfl <;> rfl) ?_; intro w4 g4 o4; have HG := Lib.hid (And.intro g4 o4); clear g4 o4) | fail)
          have HB4 : Hid (Below wr.heap.size wr w4) := Lib.hid (HZ.out.2.trans (HG.out.2.below (by omega)))
          have HB04 : Hid (Below w.heap.size w w4) := Lib.hid (HBw.out.trans (HB4.out.mono (by omega)))
          have HR4 : Hid (w4.rangeAt w.heap.size 0 [.slice (some ⟨b, o, none⟩) m.codes.length cC, .slice AT m.texts.length cT]) := Lib.hid (fun j v hv => HB4.out.cell_is lm (HQ.out.2.cell_is (by omega) (HR1.out j v hv)))
          have HR5 : Hid (w4.rangeAt wr.heap.size 0 (coC d (.slice AP d.params.length cP) (.slice AI d.instrs.length cI))) := Lib.hid (rangeV_of HG.out.1)
          have hrc := okMd_codes HOK.out d HD.out.2
          have KN := Lib.hid (newWkC w4 (.slice (some ⟨b, o, none⟩) m.codes.length cC) (.slice AT m.texts.length cT) (nmOf d) (.slice AP d.params.length cP) d.result d.slots AI d.instrs.length cI (by have := hrc.instrs; omega) ⟨_, _, _, rfl⟩ ⟨_, _, _, rfl⟩ ⟨_, _, _, rfl⟩)
          clear hrc
          go_wp2_with (first | (refine wpList_load_mid rfl 25 (.tmp 1) rfl w.heap.size 0 rfl [.slice (some ⟨b, o, none⟩) m.codes.length cC, .slice AT m.texts.length cT] _ HR4.out Tryd.underlying25 rfl (by exact info25s) ?_) | (refine wpList_load_mid rfl 30 (.tmp 4) rfl wr.heap.size 0 rfl (coC d (.slice AP d.params.length cP) (.slice AI d.instrs.length cI)) _ HR5.out Tryd.underlying30 rfl (by exact info30s) ?_) | fail)
          refine KN.out.mono ?_
          rintro r w5 ⟨W, mm, L, V, rfl, hwk, hb5⟩
          have hs4 : w.heap.size ≤ w4.heap.size := HB04.out.size
          have hb05 : Below w.heap.size w w5 := HB04.out.trans (hb5.mono hs4)
          have KS := Lib.hid (safeC (P := ⟨(m.codes.map kcOf).map (fun c => (c.params, c.result)), m.texts.length, d.result⟩) (cs := m.codes) (c := d) (a0 := initV (kcOf d)) w5 hwk rfl rfl rfl rfl (init_sl d) (safeP_of HOK.out HF.out HD.out.2 (HT.out.below hb05 HT.out.1) (by omega) ((HCV.out.below hb05).more hs4) ((HPI.out.1.below hb05).more hs4) ((HPI.out.2.below hb05).more hs4)))
          have HB5 : Hid (Below (w.heap.size + 1) w1 w5) := Lib.hid ((HQ.out.2.trans (HB4.out.mono (by omega))).trans (hb5.mono (by have := HB4.out.size; omega)))
          have HW4 : Hid (w.heap.size + 1 ≤ w4.heap.size) := Lib.hid (by have := HB4.out.size; omega)
          clear KN hwk hb5 hs4 hb05 HR HR4 HR5 HG HZ
          go_wp2_with fail
          refine KS.out.mono ?_
          rintro r w6 ⟨bb, rfl, hbb, hlow⟩
          have HB6 : Hid (Below (w.heap.size + 1) w1 w6) := Lib.hid (HB5.out.trans (hlow.mono HW4.out))
          have HSB : Hid (bb = true ↔ SafeC m d) := Lib.hid hbb
          clear KS hbb hlow
          cases bb with
          | false =>
            have HE := Lib.hid (HC3.out HOK.out d HD.out.2 (fun hs => by have := HSB.out.2 hs; cases this))
            have HB7 := Lib.hid (HB1.out.trans (HB6.out.mono (show w.heap.size ≤ w.heap.size + 1 by omega)))
            clear HSB
            go_wp2_with fail
            go_ret
            exact ⟨by rw [HE.out]; rfl, HB7.out⟩
          | true =>
            have HN6 : Hid ((∀ j e, j < k + 1 → m.codes[j]? = some e → SafeC m e) ∧ Below (w.heap.size + 1) w1 w6) := Lib.hid ⟨fun j e hj he => by
              by_cases hjk : j = k
              · subst hjk
                have h1 := HD.out.1
                rw [he] at h1
                injection h1 with h1
                rw [h1]
                exact HSB.out.1 rfl
              · exact HQ.out.1 j e (by omega) he, HB6.out⟩
            clear HSB
            go_wp2_with fail
            go_round
            case measure => simp [intOf]; omega
            case rel => exact ⟨k + 1, by go_num, by omega, HN6⟩
        · obtain rfl : k = m.codes.length := by omega
          have HE := Lib.hid (HC4.out HOK.out HN.out (fun c hc => by
            obtain ⟨j, hj⟩ := List.getElem?_of_mem hc
            exact HQ.out.1 j c (List.getElem?_eq_some_iff.1 hj).1 hj))
          have HB7 := Lib.hid (HB1.out.trans (HQ.out.2.mono (show w.heap.size ≤ w.heap.size + 1 by omega)))
          clear HQ
          go_wp2_with fail
          go_ret
          exact ⟨by rw [HE.out]; rfl, HB7.out⟩
    · rw [decide_eq_false hn]
      have HE := Lib.hid (HC2.out HOK.out hn)
      have HB7 := Lib.hid (HB1.out.trans (HB3.out.mono (show w.heap.size ≤ w.heap.size + 1 by omega)))
      clear hn
      go_wp2_with fail
      go_ret
      exact ⟨by rw [HE.out]; rfl, HB7.out⟩
  · rw [Bool.not_eq_true] at hok
    have HE := Lib.hid (HC1.out (by rw [hok]; decide))
    rw [hok]
    clear hok
    go_wp2_with fail
    go_ret
    exact ⟨by rw [HE.out]; rfl, HB02.out⟩
end Go.Proofs.YtilmidjkjgeoeaaDoor
