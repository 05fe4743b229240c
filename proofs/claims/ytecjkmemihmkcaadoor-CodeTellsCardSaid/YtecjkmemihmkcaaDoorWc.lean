/- The walk of CodeCuts: it returns true, and nothing that was there has changed. Conditions: none beyond what its arguments are; the table of signs lies as the program lays it. -/
import Derived.Test.YtecjkmemihmkcaaDoorWz
namespace Go.Proofs.YtecjkmemihmkcaaDoor
set_option maxRecDepth 100000
open Go.RowKit
set_option linter.unusedSimpArgs false
set_option linter.unusedVariables false

theorem mdB_max {m : Md} (h : okMd m = true) : (mdB m).length ≤ 18000000 := by
  obtain ⟨k1, k2, k3, _⟩ := okMd_is h
  have h1 := cdsN_le (List.all_eq_true.1 k3) m.codes.length (Nat.le_refl _)
  have h2 := szX_le (okTexts h) m.texts.length (Nat.le_refl _)
  rw [List.take_length] at h1
  rw [mdB_len]
  omega

set_option maxHeartbeats 1600000 in
theorem cuts_walk (m : Md) (V : Value) (cut : Nat) (w : World) (hcut : cut < 4294967296) (h : ModV w w.heap.size m V) (hf : MdFit m) (ht : Tab w) : Calls Tryd.prog 7 #[V, .int .u32 cut] w (Says true w) := by
  have HM := Lib.hid h
  have HF := Lib.hid hf
  have HT := Lib.hid ht
  have h0 := ht.1
  obtain ⟨C, T, rfl, hC, hT⟩ := h
  obtain ⟨AC, cC, vs, rfl, p1, p2, p3, p4⟩ := hC
  obtain ⟨AT, cT, rfl, q1, q2, q3⟩ := hT
  clear p3 p4 q3 hf ht
  unfold maxLen at p2 q2
  have X0 := Lib.hid (Bx.start w (.slice AC m.codes.length cC) (.slice AT m.texts.length cT))
  have K := Lib.hid (head_true _ (HT.out.below X0.out.low h0))
  go_enter Tryd.func7, Tryd.ntmps7
  go_wp2_with fail
  refine K.out.mono ?_
  clear K
  rintro e w1 ⟨rfl, hb1⟩
  have X1 := Lib.hid (X0.out.on hb1)
  have R1 := Lib.hid X1.out.range
  have K := Lib.hid (great m _ w1 (X1.out.mod HM.out))
  clear hb1
  go_wp2_with (first | (refine wpList_load_mid rfl 25 (.tmp 2) rfl w.heap.size 0 rfl [.slice AC m.codes.length cC, .slice AT m.texts.length cT] _ R1.out Tryd.underlying25 rfl info25s ?_; refine Hid.out ?_) | fail)
  refine Lib.hid ?_
  go_wp2_with fail
  refine K.out.mono ?_
  clear K
  rintro e w2 ⟨b, rfl, hb2⟩
  have X2 := Lib.hid (X1.out.on hb2)
  clear hb2
  cases b with
  | true =>
    go_wp2
    go_ret
    exact ⟨rfl, X2.out.low⟩
  | false =>
    have R2 := Lib.hid X2.out.range
    have K := Lib.hid (put m _ w2 (X2.out.mod HM.out) (fun c hc => (HF.out.codes c hc).name))
    go_wp2_with (first | (refine wpList_load_mid rfl 25 (.tmp 2) rfl w.heap.size 0 rfl [.slice AC m.codes.length cC, .slice AT m.texts.length cT] _ R2.out Tryd.underlying25 rfl info25s ?_; refine Hid.out ?_) | fail)
    refine Lib.hid ?_
    go_wp2_with fail
    refine K.out.mono ?_
    clear K
    rintro e w3 ⟨hb3, ⟨hok, A3, c3, rfl, j1, j2, j3, _⟩ | ⟨hno, rfl⟩⟩
    · have X3 := Lib.hid (X2.out.on hb3)
      have hmax := mdB_max hok
      have hmin : 12 ≤ (mdB m).length := by rw [mdB_len]; omega
      have HCUT : Hid (∀ t, t < (mdB m).length → getR ((mdB m).take t) = .bad 11) := fun t h => get_cut HF.out hok h
      have HY := Lib.hid (mdB_byt HF.out)
      have HL3 := Lib.hid j3
      obtain ⟨ad, rfl⟩ : ∃ ad, A3 = some ad := by
        cases A3 with
        | none => have := j3.1 rfl; omega
        | some ad => exact ⟨ad, rfl⟩
      unfold maxLen at j2
      generalize hmd : mdB m = l at *
      generalize hLL : l.length = L at *
      obtain ⟨t, htt⟩ : ∃ t : Nat, t = cut % L := ⟨_, rfl⟩
      have htL : t < L := by rw [htt]; exact Nat.mod_lt _ (by omega)
      have e2 : ((cut : Int) % (L : Int)) = (t : Int) := by rw [htt]; simp
      have K := Lib.hid (get_n (some ad) (l.take t) t c3 w3 (by rw [List.length_take]; omega) (by omega) (by unfold maxLen; omega) (HL3.out.pre t) (HY.out.pre t))
      have HB := Lib.hid (HCUT.out t htL)
      clear hb3 hok j3 htt hmd
      go_wp2_with fail
      refine K.out.mono ?_
      clear K
      rintro e w4 ⟨hb4, ⟨m', q, V, hm, _⟩ | ⟨E, hE, hne, rfl⟩⟩
      · rw [HB.out] at hm
        cases hm
      · rw [HB.out] at hE
        injection hE with hE
        subst hE
        have B4 := Lib.hid ((X3.out.low.trans (hb4.mono X3.out.low.size)).alloc (by have := X3.out.low.size; have := hb4.size; omega) (.cells #[.slice none 0 0, .slice none 0 0] 25))
        clear hb4
        go_wp2
        go_ret
        exact ⟨rfl, B4.out⟩
    · have X3 := Lib.hid (X2.out.on hb3)
      go_wp2
      go_ret
      exact ⟨rfl, X3.out.low⟩

end Go.Proofs.YtecjkmemihmkcaaDoor
