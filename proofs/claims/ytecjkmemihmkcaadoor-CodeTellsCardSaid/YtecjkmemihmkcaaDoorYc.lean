/- What the document's Sign and Number return. Conditions: none. -/
import Derived.Test.YtecjkmemihmkcaaDoorYb
import Derived.Test.YtecjkmemihmkcaaDoorZn
namespace Go.Proofs.YtecjkmemihmkcaaDoor
set_option maxRecDepth 100000
open Go.RowKit
set_option linter.unusedSimpArgs false
set_option linter.unusedVariables false

/-- the document's row of signs -/
def refL : List (List Int) := [] :: signsL
def RowS (w : World) (b : Nat) : Prop := ∀ (k : Nat) s, refL[k]? = some s → w.cell? ⟨b, k, none⟩ = some (.string (strOfNums s))
theorem refSigns (w : World) : Calls Tryd.prog 43 #[] w fun e w' => ∃ b, e = .returned (.slice (some ⟨b, 0, none⟩) 13 13) ∧ Below w.heap.size w w' ∧ w.heap.size ≤ b ∧ b < w'.heap.size ∧ RowS w' b := by
  have hR : RowS (w.alloc (.cells #[.string ⟨#[]⟩, .string ⟨#[43]⟩, .string ⟨#[45]⟩, .string ⟨#[42]⟩, .string ⟨#[47]⟩, .string ⟨#[37]⟩, .string ⟨#[60]⟩, .string ⟨#[60, 61]⟩, .string ⟨#[62]⟩, .string ⟨#[62, 61]⟩, .string ⟨#[61, 61]⟩, .string ⟨#[33, 61]⟩, .string ⟨#[33]⟩] 9)) w.heap.size := by
    intro k s hs
    rw [cell_of_row _ _ _ _ _ _ (heap_alloc_new w _)]
    have hk : k < 13 := (List.getElem?_eq_some_iff.1 hs).1
    have : k = 0 ∨ k = 1 ∨ k = 2 ∨ k = 3 ∨ k = 4 ∨ k = 5 ∨ k = 6 ∨ k = 7 ∨ k = 8 ∨ k = 9 ∨ k = 10 ∨ k = 11 ∨ k = 12 := by omega
    rcases this with rfl | rfl | rfl | rfl | rfl | rfl | rfl | rfl | rfl | rfl | rfl | rfl | rfl <;> (simp [refL, signsL] at hs; subst hs; rfl)
  have HR := Lib.hid hR
  have HB := Lib.hid ((Below.refl w.heap.size w).alloc (Nat.le_refl _) (.cells #[.string ⟨#[]⟩, .string ⟨#[43]⟩, .string ⟨#[45]⟩, .string ⟨#[42]⟩, .string ⟨#[47]⟩, .string ⟨#[37]⟩, .string ⟨#[60]⟩, .string ⟨#[60, 61]⟩, .string ⟨#[62]⟩, .string ⟨#[62, 61]⟩, .string ⟨#[61, 61]⟩, .string ⟨#[33, 61]⟩, .string ⟨#[33]⟩] 9))
  clear hR
  go_enter Tryd.func43, Tryd.ntmps43
  go_wp2
  go_ret
  exact ⟨_, rfl, HB.out, Nat.le_refl _, by simp, HR.out⟩
theorem refL_sign {n : Int} (h0 : 0 ≤ n) (h1 : n < 13) : refL[n.toNat]? = some (signM n) := by
  obtain ⟨k, rfl⟩ := Int.eq_ofNat_of_zero_le h0
  have : k = 0 ∨ k = 1 ∨ k = 2 ∨ k = 3 ∨ k = 4 ∨ k = 5 ∨ k = 6 ∨ k = 7 ∨ k = 8 ∨ k = 9 ∨ k = 10 ∨ k = 11 ∨ k = 12 := by omega
  rcases this with rfl | rfl | rfl | rfl | rfl | rfl | rfl | rfl | rfl | rfl | rfl | rfl | rfl <;> decide
theorem refSign (n : Int) (w : World) (h1 : -9223372036854775808 ≤ n) (h2 : n ≤ 9223372036854775807) : Calls Tryd.prog 20 #[.int .i64 n] w fun e w' => e = .returned (.string (strOfNums (signM n))) ∧ Below w.heap.size w w' := by
  by_cases h0 : n < 0
  · have hm : strOfNums (signM n) = ⟨#[]⟩ := by unfold signM; rw [if_neg (by omega)]; rfl
    rw [hm]
    clear hm
    go_enter Tryd.func20, Tryd.ntmps20
    go_wp2_with fail
    refine (refSigns w).mono ?_
    rintro e w1 ⟨b, rfl, hb, hge, hlt, hr⟩
    have HB := Lib.hid hb
    clear hb hr
    go_wp2
    go_ret
    exact ⟨rfl, HB.out⟩
  · by_cases h3 : n < 13
    · have hs := refL_sign (by omega) h3
      have HS := Lib.hid hs
      generalize signM n = s at *
      obtain ⟨z, hz⟩ : ∃ z, z = strOfNums s := ⟨_, rfl⟩
      rw [← hz]
      have HZ := Lib.hid hz
      clear hs hz
      go_enter Tryd.func20, Tryd.ntmps20
      go_wp2_with fail
      refine (refSigns w).mono ?_
      rintro e w1 ⟨b, rfl, hb, hge, hlt, hr⟩
      have hc := hr _ _ HS.out
      rw [← HZ.out] at hc
      have HB := Lib.hid hb
      have h4 : 0 ≤ n := by omega
      clear hb hr h0
      go_wp2
      go_ret
      exact ⟨rfl, HB.out⟩
    · have hm : strOfNums (signM n) = ⟨#[]⟩ := by unfold signM; rw [if_neg (by omega)]; rfl
      rw [hm]
      clear hm
      have h4 : 13 ≤ n := by omega
      go_enter Tryd.func20, Tryd.ntmps20
      go_wp2_with fail
      refine (refSigns w).mono ?_
      rintro e w1 ⟨b, rfl, hb, hge, hlt, hr⟩
      have HB := Lib.hid hb
      clear hb hr h0 h3
      go_wp2
      go_ret
      exact ⟨rfl, HB.out⟩

set_option maxHeartbeats 800000 in
theorem refNumber (s : List Int) (w : World) (hy : Byt s) : Calls Tryd.prog 22 #[.string (strOfNums s)] w fun e w' => e = .returned (.int .i64 (numberM s)) ∧ Below w.heap.size w w' := by
  have HA : Hid (∀ (k : Nat) x, signsL[k]? = some x → s = x → numberM s = (k : Int) + 1) := fun k x h1 h2 => number_at (by rw [h2]; exact h1)
  have HN : Hid ((∀ j, j < 12 → signsL[j]? ≠ some s) → numberM s = 0) := number_none
  have HE : Hid (∀ x ∈ signsL, ((strOfNums x).toList == (strOfNums s).toList) = decide (x = s)) := fun x hx => str_eq (signs_byt x hx) hy
  have HL : Hid (∀ k : Nat, k < 12 → ∃ x, signsL[k]? = some x) := fun k hk => ⟨_, List.getElem?_eq_getElem (show k < signsL.length from hk)⟩
  generalize numberM s = r at *
  generalize strOfNums s = z at *
  go_enter Tryd.func22, Tryd.ntmps22
  go_wp2_with fail
  refine (refSigns w).mono ?_
  rintro e w1 ⟨b, rfl, hb, hge, hlt, hr⟩
  have HB := Lib.hid hb
  have HR := Lib.hid hr
  clear hb hr
  go_wp2
  go_loop [4] (fun i => ∃ k : Nat, k ≤ 12 ∧ i = .int .i64 ((k : Int) + 1) ∧ ∀ j, j < k → signsL[j]? ≠ some s) (fun i => 13 - (intOf i).toNat)
  case atStart => exact ⟨0, by omega, rfl, fun j hj => by omega⟩
  case round =>
    obtain ⟨k, hk, rfl, hno⟩ := hrel
    have HNO := Lib.hid hno
    clear hno
    by_cases hkl : k < 12
    · obtain ⟨x, hx⟩ := HL.out k hkl
      have hc := HR.out (k + 1) x (by show signsL[k]? = _; exact hx)
      have he := HE.out x (List.mem_of_getElem? hx)
      have HX := Lib.hid hx
      clear hx
      generalize strOfNums x = y at *
      by_cases hsx : x = s
      · rw [decide_eq_true hsx] at he
        have HR2 := Lib.hid (HA.out k x HX.out hsx.symm)
        have he2 : y.toList = z.toList := by simpa using he
        clear hsx
        go_wp2
        go_ret
        refine ⟨?_, HB.out⟩
        rw [HR2.out]
        rfl
      · rw [decide_eq_false hsx] at he
        have HNX : Hid (∀ j, j < k + 1 → signsL[j]? ≠ some s) := fun j hj => by
          by_cases hjk : j < k
          · exact HNO.out j hjk
          · obtain rfl : j = k := by omega
            rw [HX.out]
            intro e
            injection e with e
            exact hsx e
        have he2 : ¬ y.toList = z.toList := by simpa using he
        clear hsx
        go_wp2
        go_round
        case rel => exact ⟨k + 1, by omega, by go_num, HNX.out⟩
        case measure => simp [intOf]; omega
    · obtain rfl : k = 12 := by omega
      have HR2 := Lib.hid (HN.out HNO.out)
      go_wp2
      go_ret
      exact ⟨by rw [HR2.out]; rfl, HB.out⟩

end Go.Proofs.YtecjkmemihmkcaaDoor
