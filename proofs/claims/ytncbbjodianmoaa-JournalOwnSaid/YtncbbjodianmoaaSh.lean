/- Whether a row of pairs is right, of the program and of the document; whether two rows are alike; whether one is too great. Conditions: what is read lies in memory; a row is not longer than memory. -/
import Derived.Test.YtncbbjodianmoaaSg
namespace Go.Proofs.Ytncbbjodianmoaa
open Go.RowKit

/-- the first k pairs are right -/
def okTo (l : List PR) (k : Nat) : Prop := (∀ p ∈ l.take k, p.1.length ≤ 64 ∧ p.2.length ≤ 256) ∧ Srt (l.take k)
theorem okTo_zero (l : List PR) : okTo l 0 := by constructor <;> simp
theorem okTo_next {l : List PR} {k : Nat} {p : PR} (h : okTo l k) (hp : l[k]? = some p) (h1 : p.1.length ≤ 64) (h2 : p.2.length ≤ 256) (h3 : ∀ q, 0 < k → l[k - 1]? = some q → cmpB q.1 p.1 < 0) : okTo l (k + 1) := by
  unfold okTo
  rw [take_next hp]
  refine ⟨fun q hq => ?_, List.pairwise_append.2 ⟨h.2, List.pairwise_singleton _ _, fun a ha b hb => ?_⟩⟩
  · rcases List.mem_append.1 hq with e | e
    · exact h.1 q e
    · rw [List.mem_singleton.1 e]; exact ⟨h1, h2⟩
  · rw [List.mem_singleton.1 hb]
    have hk : 0 < k := by
      rcases Nat.eq_zero_or_pos k with e | e
      · subst e; simp at ha
      · exact e
    have hkl : k < l.length := (List.getElem?_eq_some_iff.1 hp).1
    have hq : l[k - 1]? = some l[k - 1] := List.getElem?_eq_getElem (by omega)
    generalize l[k - 1] = q at hq
    have h4 := h3 q hk hq
    have e := take_next hq
    rw [show k - 1 + 1 = k by omega] at e
    rw [e] at ha
    rcases List.mem_append.1 ha with g | g
    · have hs := h.2
      rw [e] at hs
      exact cmpB_trans ((List.pairwise_append.1 hs).2.2 a g q (List.mem_singleton.2 rfl)) h4
    · rw [List.mem_singleton.1 g]; exact h4
theorem not_right_len {l : List PR} {k : Nat} {p : PR} (hp : l[k]? = some p) (h : 64 < p.1.length ∨ 256 < p.2.length) : decide (RightM l) = false := by
  rw [decide_eq_false_iff_not]
  intro hr
  have := hr.1 p (List.mem_of_getElem? hp)
  omega
theorem not_right_ord {l : List PR} {k : Nat} {p q : PR} (hp : l[k]? = some p) (hk : 0 < k) (hq : l[k - 1]? = some q) (h : 0 ≤ cmpB q.1 p.1) : decide (RightM l) = false := by
  rw [decide_eq_false_iff_not]
  intro hr
  have h1 := hr.2.1
  have hkl : k < l.length := (List.getElem?_eq_some_iff.1 hp).1
  have := List.pairwise_iff_getElem.1 h1 (k - 1) k (by omega) hkl (by omega)
  rw [List.getElem?_eq_getElem (by omega)] at hp hq
  injection hp with hp
  injection hq with hq
  rw [hp, hq] at this
  omega
theorem right_of {l : List PR} (h : okTo l l.length) : decide (RightM l) = decide (szM l ≤ 2048) := by
  unfold okTo at h
  rw [List.take_length] at h
  rw [Bool.eq_iff_iff]
  simp only [decide_eq_true_eq]
  exact ⟨fun g => g.2.2, fun g => ⟨h.1, h.2, g⟩⟩
theorem szM_ok : ∀ {l : List PR}, (∀ p ∈ l, p.1.length ≤ 64 ∧ p.2.length ≤ 256) → szM l ≤ 328 * l.length
  | [], _ => Nat.le_refl _
  | p :: l, h => by
    have h1 := h p (List.mem_cons_self ..)
    have h2 := szM_ok (l := l) fun q hq => h q (List.mem_cons_of_mem _ hq)
    rw [szM_cons, List.length_cons]
    omega
theorem okTo_size {l : List PR} (h : okTo l l.length) (hl : l.length ≤ 2932031007402) : szM l ≤ 4611686018427387904 := by
  unfold okTo at h
  rw [List.take_length] at h
  have := szM_ok h.1
  omega

set_option maxHeartbeats 1600000 in
theorem rightC (A : Option Addr) (ls : List PR) (c : Nat) (w : World) (hp : Prs w w.heap.size A c ls) (hc : ls.length ≤ c) (hm : c ≤ maxLen) (hl : ls.length ≤ 2932031007402) :
    Calls Try.prog 27 #[.slice A ls.length c] w fun e w' => e = .returned (.bool (decide (RightM ls))) ∧ Below w.heap.size w w' := by
  have HP := Lib.hid hp
  have hm' := hm
  clear hp
  unfold maxLen at hm
  go_enter Try.func27, Try.ntmps27
  go_wp2
  go_loopw [3, 4, 7] (fun _ _ i wr => ∃ k : Nat, k ≤ ls.length ∧ i = .int .i64 k ∧ Hid (okTo ls k ∧ Below w.heap.size w wr)) (fun _ _ i _ => ls.length - (intOf i).toNat)
  case atStart => exact ⟨0, Nat.zero_le _, rfl, okTo_zero _, Below.refl _ _⟩
  case round =>
    obtain ⟨k, hk, rfl, HR⟩ := hrel
    by_cases hlt : k < ls.length
    · have hg : ls[k]? = some ls[k] := List.getElem?_eq_getElem hlt
      generalize ls[k] = p at hg
      obtain ⟨b, o, Au, cu, Av, cv, rfl, c1, c2, s1, s2, q1, q2, q3, q4⟩ := (HP.out.on HR.out.2).at hg
      have HC := Lib.hid (range2 c1 c2)
      have hb1 := below_alloc wr (.cells #[.slice Au p.1.length cu, .slice Av p.2.length cv] 47)
      have HB := Lib.hid (HR.out.2.trans (hb1.mono HR.out.2.size))
      have HS := Lib.hid (s1.on hb1)
      have HG := Lib.hid hg
      unfold maxLen at q2 q4
      clear c1 c2 s1 s2 hg
      by_cases hbad : 64 < p.1.length ∨ 256 < p.2.length
      · have HF := Lib.hid (not_right_len HG.out hbad)
        by_cases h1 : 64 < p.1.length
        · clear hbad hb1
          go_wp2_with (first | (refine wpList_load_mid rfl 47 (.tmp 10) rfl b (o + k * 2) rfl [.slice Au p.1.length cu, .slice Av p.2.length cv] _ HC.out Try.underlying47 rfl info42s ?_; refine Hid.out ?_) | fail)
          refine Lib.hid ?_
          go_wp2
          go_ret
          exact ⟨ret_bool HF.out.symm, HB.out⟩
        · have h2 : 256 < p.2.length := by omega
          clear hbad hb1
          go_wp2_with (first | (refine wpList_load_mid rfl 47 (.tmp 10) rfl b (o + k * 2) rfl [.slice Au p.1.length cu, .slice Av p.2.length cv] _ HC.out Try.underlying47 rfl info42s ?_; refine Hid.out ?_) | fail)
          refine Lib.hid ?_
          go_wp2
          go_ret
          exact ⟨ret_bool HF.out.symm, HB.out⟩
      · have h1 : p.1.length ≤ 64 := by omega
        have h2 : p.2.length ≤ 256 := by omega
        clear hbad
        by_cases hk0 : k = 0
        · have HN := Lib.hid (okTo_next HR.out.1 HG.out h1 h2 (fun q hq => by omega))
          have hd : decide (0 < k) = false := by simpa using hk0
          have HK := Lib.hid hk0
          clear hk0 hb1
          go_wp2_with (first | (refine wpList_load_mid rfl 47 (.tmp 10) rfl b (o + k * 2) rfl [.slice Au p.1.length cu, .slice Av p.2.length cv] _ HC.out Try.underlying47 rfl info42s ?_; refine Hid.out ?_) | fail)
          refine Lib.hid ?_
          go_wp2_with fail
          go_quiet (fail)
          go_wp2
          go_roundw
          case rel => exact ⟨k + 1, by omega, by go_num, HN.out, below_drewN HB.out _⟩
          case measure => simp [intOf]; omega
        · have hpos : 0 < k := by omega
          have hq : ls[k - 1]? = some ls[k - 1] := List.getElem?_eq_getElem (by omega)
          generalize ls[k - 1] = q at hq
          obtain ⟨b', o', Aw, cw, Ax, cx, e1, c1, _, s1, _, r1, r2, _⟩ := (HP.out.on HB.out).at hq
          injection e1 with e1
          injection e1 with e1 e2
          subst e1 e2
          have K := Lib.hid (fun n => (compareC (.slice Aw q.1.length cw) (.slice Au p.1.length cu) q.1 p.1 _ _ (s1.drewN n) (HS.out.drewN n)).mono fun e w' (h : _ ∧ _) => (⟨h.1, h.2.symm⟩ : _ ∧ _))
          have hi : (k : Int) - 1 = ((k - 1 : Nat) : Int) := by omega
          have ho : o + (k - 1) * 2 = o + k * 2 - 2 := by omega
          have ew : IntKind.i64.wrap ((k : Int) - 1) = (k : Int) - 1 := IntWalk.i64_in _ (by omega)
          have e0 : (0 : Int) ≤ (k : Int) - 1 := by omega
          have e0' : (1 : Int) ≤ (k : Int) := by omega
          have et : ((k : Int) - 1).toNat = k - 1 := by omega
          have hd : decide (0 < k) = true := by simpa using hpos
          clear s1 hk0 hi ho hb1
          rcases Int.lt_or_le (cmpB q.1 p.1) 0 with hcmp | hcmp
          · have HN := Lib.hid (okTo_next HR.out.1 HG.out h1 h2 (fun q' _ hq' => by rw [hq] at hq'; injection hq' with hq'; rw [← hq']; exact hcmp))
            clear hq
            have hge : decide (0 ≤ cmpB q.1 p.1) = false := by simp; omega
            generalize cmpB q.1 p.1 = z at *
            go_wp2_with (first | (refine wpList_load_mid rfl 47 (.tmp 10) rfl b (o + k * 2) rfl [.slice Au p.1.length cu, .slice Av p.2.length cv] _ HC.out Try.underlying47 rfl info42s ?_; refine Hid.out ?_) | fail)
            refine Lib.hid ?_
            go_wp2_with fail
            go_quiet ((go_at_call 42; exact Calls.quiet_of_same (K.out _)))
            clear ew et
            go_wp2
            go_roundw
            case rel => exact ⟨k + 1, by omega, by go_num, HN.out, below_drewN HB.out _⟩
            case measure => simp [intOf]; omega
          · have HN := Lib.hid (not_right_ord HG.out hpos hq hcmp)
            clear hq
            have hge : decide (0 ≤ cmpB q.1 p.1) = true := by simpa using hcmp
            generalize cmpB q.1 p.1 = z at *
            go_wp2_with (first | (refine wpList_load_mid rfl 47 (.tmp 10) rfl b (o + k * 2) rfl [.slice Au p.1.length cu, .slice Av p.2.length cv] _ HC.out Try.underlying47 rfl info42s ?_; refine Hid.out ?_) | fail)
            refine Lib.hid ?_
            go_wp2_with fail
            go_quiet ((go_at_call 42; exact Calls.quiet_of_same (K.out _)))
            clear ew et
            go_wp2
            go_ret
            exact ⟨ret_bool HN.out.symm, below_drewN HB.out _⟩
    · obtain rfl : k = ls.length := by omega
      have HF := Lib.hid (right_of HR.out.1)
      have K := Lib.hid (sizeC A ls c wr (HP.out.on HR.out.2) hc hm' (okTo_size HR.out.1 hl))
      have HB := Lib.hid HR.out.2
      clear HR
      go_wp2_with fail
      refine K.out.mono ?_
      rintro e w2 ⟨rfl, hb2⟩
      go_wp2
      go_ret
      refine ⟨ret_bool ?_, HB.out.trans (hb2.mono HB.out.size)⟩
      rw [HF.out]
      first | rfl | (rw [Bool.eq_iff_iff]; simp; done) | (rw [Bool.eq_iff_iff]; simp; omega)
end Go.Proofs.Ytncbbjodianmoaa
