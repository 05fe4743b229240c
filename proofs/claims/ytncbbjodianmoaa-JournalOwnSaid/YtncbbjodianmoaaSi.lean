/- Whether a row of pairs is right by the document; whether two rows are alike; whether one is too great. Conditions: what is read lies in memory; a row is not longer than memory. -/
import Derived.Test.YtncbbjodianmoaaSh
namespace Go.Proofs.Ytncbbjodianmoaa
open Go.RowKit

set_option maxHeartbeats 1600000 in
theorem refRightC (A : Option Addr) (ls : List PR) (c : Nat) (w : World) (hp : Prs w w.heap.size A c ls) (hc : ls.length ≤ c) (hm : c ≤ maxLen) (hl : ls.length ≤ 2932031007402) :
    Calls Try.prog 26 #[.slice A ls.length c] w fun e w' => e = .returned (.bool (decide (RightM ls))) ∧ Below w.heap.size w w' := by
  have HP := Lib.hid hp
  have hm' := hm
  clear hp
  unfold maxLen at hm
  go_enter Try.func26, Try.ntmps26
  go_wp2
  go_loopw [3] (fun i wr => ∃ k : Nat, k ≤ ls.length ∧ i = .int .i64 k ∧ Hid (okTo ls k ∧ Below w.heap.size w wr)) (fun i _ => ls.length - (intOf i).toNat)
  case atStart => exact ⟨0, Nat.zero_le _, rfl, okTo_zero _, Below.refl _ _⟩
  case round =>
    obtain ⟨k, hk, rfl, HR⟩ := hrel
    by_cases hlt : k < ls.length
    · have hg : ls[k]? = some ls[k] := List.getElem?_eq_getElem hlt
      generalize ls[k] = p at hg
      obtain ⟨b, o, Au, cu, Av, cv, rfl, c1, c2, s1, s2, q1, q2, q3, q4⟩ := (HP.out.on HR.out.2).at hg
      have HG := Lib.hid hg
      unfold maxLen at q2 q4
      clear hg
      by_cases hbad : 64 < p.1.length ∨ 256 < p.2.length
      · have HF := Lib.hid (not_right_len HG.out hbad)
        by_cases h1 : 64 < p.1.length
        · have hd : decide ((64 : Int) < (p.1.length : Int)) = true := by simp; omega
          clear hbad s1 s2
          go_wp2_with fail
          go_quiet (fail)
          go_wp2
          go_ret
          exact ⟨ret_bool HF.out.symm, below_drewN HR.out.2 _⟩
        · have h2 : 256 < p.2.length := by omega
          have hd : decide ((64 : Int) < (p.1.length : Int)) = false := by simp; omega
          have hd2 : decide ((256 : Int) < (p.2.length : Int)) = true := by simp; omega
          clear hbad s1 s2
          go_wp2_with fail
          go_quiet (fail)
          go_wp2
          go_ret
          exact ⟨ret_bool HF.out.symm, below_drewN HR.out.2 _⟩
      · have h1 : p.1.length ≤ 64 := by omega
        have h2 : p.2.length ≤ 256 := by omega
        have hd1 : decide ((64 : Int) < (p.1.length : Int)) = false := by simp; omega
        have hd2 : decide ((256 : Int) < (p.2.length : Int)) = false := by simp; omega
        clear hbad
        by_cases hk0 : k = 0
        · have HN := Lib.hid (okTo_next HR.out.1 HG.out h1 h2 (fun q hq => by omega))
          have hd : decide (0 < k) = false := by simpa using hk0
          clear hk0 s1 s2
          go_wp2_with fail
          go_quiet (fail)
          go_wp2
          go_roundw
          case rel => exact ⟨k + 1, by omega, by go_num, HN.out, below_drewN HR.out.2 _⟩
          case measure => simp [intOf]; omega
        · have hpos : 0 < k := by omega
          have hq : ls[k - 1]? = some ls[k - 1] := List.getElem?_eq_getElem (by omega)
          generalize ls[k - 1] = q at hq
          obtain ⟨b', o', Aw, cw, Ax, cx, e1, c3, _, s3, _, r1, r2, _⟩ := (HP.out.on HR.out.2).at hq
          injection e1 with e1
          injection e1 with e1 e2
          subst e1 e2
          have d1 := fun n => (s1.drewN n).str
          have d2 := fun n => (s3.drewN n).str
          have hsl := str_less s3.byt s1.byt
          have ew : IntKind.i64.wrap ((k : Int) - 1) = (k : Int) - 1 := IntWalk.i64_in _ (by omega)
          have e0 : (0 : Int) ≤ (k : Int) - 1 := by omega
          have e0' : (1 : Int) ≤ (k : Int) := by omega
          have et : ((k : Int) - 1).toNat = k - 1 := by omega
          have hd : decide (0 < k) = true := by simpa using hpos
          clear s1 s2 s3 hk0
          rcases Int.lt_or_le (cmpB q.1 p.1) 0 with hcmp | hcmp
          · have HN := Lib.hid (okTo_next HR.out.1 HG.out h1 h2 (fun q' _ hq' => by rw [hq] at hq'; injection hq' with hq'; rw [← hq']; exact hcmp))
            have hge : Op.bytesLess (strOfNums q.1).toList (strOfNums p.1).toList = true := by rw [hsl]; simpa using hcmp
            clear hq hsl
            generalize strOfNums q.1 = t1 at *
            generalize strOfNums p.1 = t2 at *
            go_wp2_with fail
            go_quiet (fail)
            clear ew et
            go_wp2
            go_roundw
            case rel => exact ⟨k + 1, by omega, by go_num, HN.out, below_drewN HR.out.2 _⟩
            case measure => simp [intOf]; omega
          · have HN := Lib.hid (not_right_ord HG.out hpos hq hcmp)
            have hge : Op.bytesLess (strOfNums q.1).toList (strOfNums p.1).toList = false := by rw [hsl]; simp; omega
            clear hq hsl
            generalize strOfNums q.1 = t1 at *
            generalize strOfNums p.1 = t2 at *
            go_wp2_with fail
            go_quiet (fail)
            clear ew et
            go_wp2
            go_ret
            exact ⟨ret_bool HN.out.symm, below_drewN HR.out.2 _⟩
    · obtain rfl : k = ls.length := by omega
      have HF := Lib.hid (right_of HR.out.1)
      have K := Lib.hid (refSizeC A ls c wr (HP.out.on HR.out.2) hc hm' (okTo_size HR.out.1 hl))
      have HB := Lib.hid HR.out.2
      clear HR
      go_wp2_with fail
      refine K.out.mono ?_
      rintro e w2 ⟨rfl, hb2⟩
      go_wp2
      go_ret
      refine ⟨ret_bool ?_, HB.out.trans (hb2.mono HB.out.size)⟩
      rw [HF.out]
      first | rfl | (rw [Bool.eq_iff_iff]; simp; done) | (rw [Bool.eq_iff_iff]; simp; omega)

/-- the first k pairs of both are alike -/
theorem take_alike {a b : List PR} {k : Nat} {p q : PR} (h : a.take k = b.take k) (hp : a[k]? = some p) (hq : b[k]? = some q) (h1 : p.1 = q.1) (h2 : p.2 = q.2) : a.take (k + 1) = b.take (k + 1) := by
  rw [take_next hp, take_next hq, h, show p = q from Prod.ext h1 h2]

set_option maxHeartbeats 1600000 in
theorem sameC (A1 : Option Addr) (l1 : List PR) (c1 : Nat) (A2 : Option Addr) (l2 : List PR) (c2 : Nat) (w : World) (hp1 : Prs w w.heap.size A1 c1 l1) (hc1 : l1.length ≤ c1) (hm1 : c1 ≤ maxLen) (hp2 : Prs w w.heap.size A2 c2 l2) :
    Calls Try.prog 22 #[.slice A1 l1.length c1, .slice A2 l2.length c2] w fun e w' => e = .returned (.bool (decide (l1 = l2))) ∧ Below w.heap.size w w' := by
  have HP1 := Lib.hid hp1
  have HP2 := Lib.hid hp2
  clear hp1 hp2
  unfold maxLen at hm1
  by_cases hlen : l1.length = l2.length
  · have HL := Lib.hid hlen
    have hne : ((l1.length : Int) != (l2.length : Int)) = false := by simp; omega
    have hne' : ((l1.length : Int) == (l2.length : Int)) = true := by simp; omega
    clear hlen
    go_enter Try.func22, Try.ntmps22
    go_wp2
    go_loopw [5] (fun i wr => ∃ k : Nat, k ≤ l1.length ∧ i = .int .i64 k ∧ Hid (l1.take k = l2.take k ∧ Below w.heap.size w wr)) (fun i _ => l1.length - (intOf i).toNat)
    case atStart => exact ⟨0, Nat.zero_le _, rfl, rfl, Below.refl _ _⟩
    case round =>
      obtain ⟨k, hk, rfl, HR⟩ := hrel
      by_cases hlt : k < l1.length
      · have hlt2 : k < l2.length := by have := HL.out; omega
        have hg1 : l1[k]? = some l1[k] := List.getElem?_eq_getElem hlt
        have hg2 : l2[k]? = some l2[k] := List.getElem?_eq_getElem hlt2
        generalize l1[k] = p at hg1
        generalize l2[k] = q at hg2
        obtain ⟨b, o, Au, cu, Av, cv, rfl, x1, x2, s1, s2, q1, q2, q3, q4⟩ := (HP1.out.on HR.out.2).at hg1
        obtain ⟨b', o', Au', cu', Av', cv', rfl, y1, y2, t1, t2, r1, r2, r3, r4⟩ := (HP2.out.on HR.out.2).at hg2
        have d1 := fun n => (s1.drewN n).str
        have d2 := fun n => (s2.drewN n).str
        have d3 := fun n => (t1.drewN n).str
        have d4 := fun n => (t2.drewN n).str
        have hs1 := str_eq s1.byt t1.byt
        have hs2 := str_eq s2.byt t2.byt
        have HG : Hid (l1[k]? = some p ∧ l2[k]? = some q) := ⟨hg1, hg2⟩
        clear s1 s2 t1 t2 hg1 hg2
        by_cases h1 : p.1 = q.1
        · by_cases h2 : p.2 = q.2
          · have HN := Lib.hid (take_alike HR.out.1 HG.out.1 HG.out.2 h1 h2)
            have e1 : ((strOfNums p.1).toList == (strOfNums q.1).toList) = true := by rw [hs1]; simpa using h1
            have e2 : ((strOfNums p.2).toList == (strOfNums q.2).toList) = true := by rw [hs2]; simpa using h2
            clear hs1 hs2 h1 h2
            generalize strOfNums p.1 = z1 at *
            generalize strOfNums p.2 = z2 at *
            generalize strOfNums q.1 = z3 at *
            generalize strOfNums q.2 = z4 at *
            go_wp2_with fail
            go_quiet (fail)
            go_wp2
            go_roundw
            case rel => exact ⟨k + 1, by omega, by go_num, HN.out, below_drewN HR.out.2 _⟩
            case measure => simp [intOf]; omega
          · have HN : Hid (decide (l1 = l2) = false) := by
              show _ = _
              simp only [decide_eq_false_iff_not]
              intro e
              have h3 := HG.out
              rw [e] at h3
              have := h3.1.symm.trans h3.2
              injection this with this
              exact h2 (by rw [this])
            have e1 : ((strOfNums p.1).toList == (strOfNums q.1).toList) = true := by rw [hs1]; simpa using h1
            have e2 : ((strOfNums p.2).toList == (strOfNums q.2).toList) = false := by rw [hs2]; simpa using h2
            clear hs1 hs2 h1 h2
            generalize strOfNums p.1 = z1 at *
            generalize strOfNums p.2 = z2 at *
            generalize strOfNums q.1 = z3 at *
            generalize strOfNums q.2 = z4 at *
            go_wp2_with fail
            go_quiet (fail)
            go_wp2
            go_ret
            exact ⟨ret_bool HN.out.symm, below_drewN HR.out.2 _⟩
        · have HN : Hid (decide (l1 = l2) = false) := by
            show _ = _
            simp only [decide_eq_false_iff_not]
            intro e
            have h3 := HG.out
            rw [e] at h3
            have := h3.1.symm.trans h3.2
            injection this with this
            exact h1 (by rw [this])
          have e1 : ((strOfNums p.1).toList == (strOfNums q.1).toList) = false := by rw [hs1]; simpa using h1
          clear hs1 hs2 h1
          generalize strOfNums p.1 = z1 at *
          generalize strOfNums p.2 = z2 at *
          generalize strOfNums q.1 = z3 at *
          generalize strOfNums q.2 = z4 at *
          go_wp2_with fail
          go_quiet (fail)
          go_wp2
          go_ret
          exact ⟨ret_bool HN.out.symm, below_drewN HR.out.2 _⟩
      · obtain rfl : k = l1.length := by omega
        have HN : Hid (decide (l1 = l2) = true) := by
          show _ = _
          simp only [decide_eq_true_eq]
          have h3 := HR.out.1
          rw [List.take_length, HL.out, List.take_length] at h3
          exact h3
        go_wp2
        go_ret
        exact ⟨ret_bool HN.out.symm, HR.out.2⟩
  · have HN : Hid (decide (l1 = l2) = false) := by
      show _ = _
      simp only [decide_eq_false_iff_not]
      intro e
      exact hlen (by rw [e])
    have hne : ((l1.length : Int) != (l2.length : Int)) = true := by simp; omega
    clear hlen
    go_enter Try.func22, Try.ntmps22
    go_wp2
    go_ret
    exact ⟨ret_bool HN.out.symm, Below.refl _ _⟩
end Go.Proofs.Ytncbbjodianmoaa
