/- Whether the program's reader sees a name and the sign =. Conditions: the reader and its tokens lie in memory. -/
import Derived.Test.YtoicncfpoklanaaDoorPo
namespace Go.Proofs.YtoicncfpoklanaaDoor
open Go.RowKit
set_option maxRecDepth 100000
set_option linter.unusedSimpArgs false

theorem setsT_two {a b : Tok} {r : List Tok} : setsT (a :: b :: r) = (decide (a.kind = 1) && isOne [[61]] b) := rfl
set_option maxHeartbeats 1600000 in
theorem sets (R : Nat) (S : Src) (ts : List Tok) (w : World) (ha : At w R S ts) :
    Calls Tryd.prog 74 #[.pointer (some ⟨R, 0, none⟩)] w fun e w' => e = .returned (.bool (setsT ts)) ∧ Below w.heap.size w w' := by
  have HAt := Lib.hid ha
  obtain ⟨h1, i, h2, h3, h4⟩ := ha
  obtain ⟨c0, c1, c2⟩ := At.cells h4
  have hc := h1.1
  have hm := h1.2.1
  have hm' := hm
  unfold maxLen at hm'
  unfold Src.V at c0
  have b0 : Hid (∀ n, Below w.heap.size w (w.drewN n)) := fun n => below_drewN (Below.refl _ _) n
  by_cases hi : i + 1 < S.all.length
  · have hg0 : S.all[i]? = some S.all[i] := List.getElem?_eq_getElem (by omega)
    have hg1 : S.all[i + 1]? = some S.all[i + 1] := List.getElem?_eq_getElem hi
    have hts : ts = S.all[i] :: S.all[i + 1] :: S.all.drop (i + 2) := by rw [h3, List.drop_eq_getElem_cons (by omega), List.drop_eq_getElem_cons hi]
    generalize S.all[i] = a at hg0 hts
    generalize S.all[i + 1] = b at hg1 hts
    have hgo : ∃ g, S.g = some g := by
      cases hgg : S.g with
      | none => rw [h1.2.2.2.1 hgg] at hi; simp at hi
      | some g => exact ⟨g, rfl⟩
    obtain ⟨g, hgg⟩ := hgo
    obtain ⟨a0, _, _, _⟩ := (h1.2.2.2.2 g hgg).2 i a hg0
    obtain ⟨k0, k1, k2, k3⟩ := (h1.2.2.2.2 g hgg).2 (i + 1) b hg1
    have hyb : Byn b.text := h1.2.2.1 b (List.mem_of_getElem? hg1)
    have HTs := Lib.hid hts
    rw [hgg] at c0
    simp only [Option.map_some] at c0
    have hne : ¬ S.c = i := by omega
    have hlen : (1 : Int) < ((S.all.length - i : Nat) : Int) := by omega
    rw [show (i + 1) * 4 = i * 4 + 4 by omega] at k0 k1 k2 k3
    clear h1 h3 h4 hts hg0 hg1
    by_cases hk : a.kind = 1
    · have hk' : ((a.kind : Int) == 1) = true := by rw [hk]; rfl
      have K : Hid (∀ n, Calls Tryd.prog 61 #[tokV b, .slice (some ⟨w.heap.size, 0, none⟩) 1 1] ((w.drewN n).alloc (.cells #[.string ⟨#[61]⟩] 9)) fun e w' => e = .returned (.bool (isOne [[61]] b)) ∧ Below w.heap.size w w') := fun n => by
        have bb := below_alloc (w.drewN n) (.cells (([[61]] : List (List Nat)).map strV).toArray 9)
        have hl := lies_strs (w.drewN n) [[61]]
        have := isSign b (some ⟨(w.drewN n).heap.size, 0, none⟩) [[61]] 1 _ (by simp) (by unfold maxLen; omega) hl (by simp; unfold Byn; decide) hyb
        rw [show (⟨#[61]⟩ : ByteArray) = strN [61] by kernel_rfl]
        refine this.mono ?_
        rintro e w' ⟨q1, q2⟩
        exact ⟨q1, ((b0.out n).trans bb).trans (q2.mono bb.size)⟩
      have HV : Hid (setsT ts = isOne [[61]] b) := by show _ = _; rw [HTs.out, setsT_two, decide_eq_true hk]; rfl
      simp only [tokV, tokC] at K
      clear hk hyb
      go_enter Tryd.func74, Tryd.ntmps74
      go_wp2_with fail
      go_quiet (fail)
      go_wp2_with (go_at_call 61; refine (K.out _).mono ?_; rintro e' w2 ⟨rfl, hb2⟩)
      go_ret
      exact ⟨ret_bool (by rw [HV.out]), hb2⟩
    · have hk' : ((a.kind : Int) == 1) = false := by rw [beq_eq_false_iff_ne]; omega
      have HV : Hid (setsT ts = false) := by show _ = _; rw [HTs.out, setsT_two, decide_eq_false hk]; rfl
      clear hk hyb
      go_enter Tryd.func74, Tryd.ntmps74
      go_wp2_with fail
      go_quiet (fail)
      go_wp2
      go_ret
      exact ⟨ret_bool (by rw [HV.out]), b0.out _⟩
  · have HV : Hid (setsT ts = false) := by
      have hl : ts.length ≤ 1 := by rw [h3]; simp; omega
      match ts, hl with
      | [], _ => rfl
      | [t], _ => rfl
    have hlen : ¬ (1 : Int) < ((S.all.length - i : Nat) : Int) := by omega
    clear h1 h3 h4
    generalize Option.map (fun g => (⟨g, 0, none⟩ : Addr)) S.g = A at *
    go_enter Tryd.func74, Tryd.ntmps74
    go_wp2_with fail
    go_quiet (fail)
    go_wp2
    all_goals
      go_ret
      exact ⟨ret_bool (by rw [HV.out]), b0.out _⟩
end Go.Proofs.YtoicncfpoklanaaDoor
