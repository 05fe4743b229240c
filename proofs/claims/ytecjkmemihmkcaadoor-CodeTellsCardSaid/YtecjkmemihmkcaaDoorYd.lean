/- What the document's Same of rows returns. Conditions: none beyond what rows are. -/
import Derived.Test.YtecjkmemihmkcaaDoorYc
namespace Go.Proofs.YtecjkmemihmkcaaDoor
set_option maxRecDepth 100000
open Go.RowKit
set_option linter.unusedSimpArgs false
set_option linter.unusedVariables false

theorem same_lists {α : Type} {l l' : List α} (hl : l.length = l'.length) (h : ∀ (k : Nat) x y, l[k]? = some x → l'[k]? = some y → x = y) : l = l' := by
  apply List.ext_getElem hl
  intro i h1 h2
  exact h i _ _ (List.getElem?_eq_getElem h1) (List.getElem?_eq_getElem h2)

set_option maxHeartbeats 800000 in
theorem sameRows (A1 A2 : Option Addr) (c1 c2 : Nat) (ls ls' : List (List Int)) (w : World) (hl1 : ls.length ≤ c1) (hc1 : c1 ≤ maxLen) (hl2 : ls'.length ≤ c2) (hc2 : c2 ≤ maxLen) (hg1 : Grid w w.heap.size A1 c1 ls) (hg2 : Grid w w.heap.size A2 c2 ls') (hy1 : ∀ l ∈ ls, Byt l) (hy2 : ∀ l ∈ ls', Byt l) (r : Bool) (hr : r = true ↔ ls = ls') :
    Calls Tryd.prog 37 #[.slice A1 ls.length c1, .slice A2 ls'.length c2] w (Says r w) := by
  unfold maxLen at hc1 hc2
  have HG1 := Lib.hid hg1
  have HG2 := Lib.hid hg2
  have HY1 := Lib.hid hy1
  have HY2 := Lib.hid hy2
  have HR := Lib.hid hr
  clear hg1 hg2 hy1 hy2 hr
  have HNO : Hid (ls ≠ ls' → r = false) := fun h => by
    cases hq : r with
    | true => exact absurd (HR.out.1 hq) h
    | false => rfl
  by_cases hlen : ls.length = ls'.length
  · have HS : Hid ((∀ (k : Nat) x y, ls[k]? = some x → ls'[k]? = some y → x = y) → r = true) := fun h => HR.out.2 (same_lists hlen h)
    have HLEN := Lib.hid hlen
    rw [← hlen]
    rw [← hlen] at hl2
    clear hlen
    go_enter Tryd.func37, Tryd.ntmps37
    go_wp2
    go_loopw [5] (fun i wr => ∃ k : Nat, k ≤ ls.length ∧ i = .int .i64 k ∧ Hid (∀ (j : Nat) x y, j < k → ls[j]? = some x → ls'[j]? = some y → x = y) ∧ Below w.heap.size w wr) (fun i _ => ls.length - (intOf i).toNat)
    case atStart => exact ⟨0, Nat.zero_le _, rfl, Lib.hid (fun j x y h => by omega), Below.refl _ _⟩
    case round =>
      obtain ⟨k, hk, rfl, HK, hb⟩ := hrel
      by_cases hkl : k < ls.length
      · obtain ⟨l, hl⟩ : ∃ l, ls[k]? = some l := ⟨_, List.getElem?_eq_getElem hkl⟩
        obtain ⟨l', hl'⟩ : ∃ l, ls'[k]? = some l := ⟨_, List.getElem?_eq_getElem (by have := HLEN.out; omega)⟩
        obtain ⟨ad1, B1, d1, rfl, b1, e1, f1, f2, f3⟩ := (HG1.out.below hb).2 k l hl
        obtain ⟨ad2, B2, d2, rfl, b2, e2, f4, f5, f6⟩ := (HG2.out.below hb).2 k l' hl'
        have g1 := fun nq => run_string_lies (P := Tryd.prog) (wr.drewN nq) 26 9 5 Tryd.underlying26 Tryd.underlying5 Tryd.underlying9 w.heap.size B1 l.length d1 l rfl (f3.below (below_drewN (Below.refl _ _) nq))
        have g2 := fun nq => run_string_lies (P := Tryd.prog) (wr.drewN nq) 26 9 5 Tryd.underlying26 Tryd.underlying5 Tryd.underlying9 w.heap.size B2 l'.length d2 l' rfl (f6.below (below_drewN (Below.refl _ _) nq))
        have he := str_eq (HY1.out l (List.mem_of_getElem? hl)) (HY2.out l' (List.mem_of_getElem? hl'))
        have HX := Lib.hid hl
        have HX' := Lib.hid hl'
        generalize strOfNums l = S at *
        generalize strOfNums l' = S' at *
        clear f3 f6 hl hl'
        have i1 : (k : Int) < (ls.length : Int) := by omega
        have HB := Lib.hid hb
        clear hb
        by_cases heq : l = l'
        · rw [decide_eq_true heq] at he
          have he2 : S.toList = S'.toList := by simpa using he
          have HN : Hid (∀ (j : Nat) x y, j < k + 1 → ls[j]? = some x → ls'[j]? = some y → x = y) := fun j x y hj h1 h2 => by
            by_cases hjk : j < k
            · exact HK.out j x y hjk h1 h2
            · obtain rfl : j = k := by omega
              rw [HX.out] at h1
              rw [HX'.out] at h2
              injection h1 with h1
              injection h2 with h2
              rw [← h1, ← h2, heq]
          clear heq
          go_wp2
          go_quiet (fail)
          clear g1 g2
          go_wp2
          go_roundw
          case rel => exact ⟨k + 1, by omega, by go_num, HN, below_drewN HB.out _⟩
          case measure => simp [intOf]; omega
        · rw [decide_eq_false heq] at he
          have he2 : ¬ S.toList = S'.toList := by simpa using he
          have HRF : Hid (r = false) := Lib.hid (HNO.out (fun h => heq (by subst h; have := HX.out.symm.trans HX'.out; injection this)))
          clear heq
          go_wp2
          go_quiet (fail)
          clear g1 g2
          go_wp2
          go_ret
          exact ⟨by rw [HRF.out]; rfl, below_drewN HB.out _⟩
      · have HRT : Hid (r = true) := Lib.hid (HS.out (fun j x y h1 h2 => HK.out j x y (by have := (List.getElem?_eq_some_iff.1 h1).1; omega) h1 h2))
        go_wp2
        go_ret
        exact ⟨by rw [HRT.out]; rfl, hb⟩
  · have HRF : Hid (r = false) := Lib.hid (HNO.out (fun h => hlen (by rw [h])))
    have hne : ((ls.length : Int) != (ls'.length : Int)) = true := by rw [bne_iff_ne]; omega
    go_enter Tryd.func37, Tryd.ntmps37
    go_wp2
    go_ret
    exact ⟨by rw [HRF.out]; rfl, Below.refl _ _⟩

end Go.Proofs.YtecjkmemihmkcaaDoor
