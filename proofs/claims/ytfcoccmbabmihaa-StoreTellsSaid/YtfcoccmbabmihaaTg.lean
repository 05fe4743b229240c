/- Whether a row of pairs is too great. Conditions: what is read lies in memory. -/
import Derived.Test.YtfcoccmbabmihaaSn
namespace Go.Proofs.Ytfcoccmbabmihaa
open Go.RowKit
set_option linter.unusedSimpArgs false
set_option linter.unusedVariables false

/-- what 'Great' answers: if no, the row is small -/
def NotGreat (w : World) (ls : List PR) (e : Ending) (w' : World) : Prop := ∃ q : Bool, e = .returned (.bool q) ∧ (q = false → Sml ls ∧ ls.length ≤ 10000) ∧ Below w.heap.size w w'

set_option maxHeartbeats 1600000 in
theorem greatC (A : Option Addr) (ls : List PR) (c : Nat) (w : World) (hp : Prs w w.heap.size A c ls) (hc : ls.length ≤ c) (hm : c ≤ maxLen) :
    Calls Try.prog 9 #[.slice A ls.length c] w (NotGreat w ls) := by
  have HP := Lib.hid hp
  clear hp
  unfold maxLen at hm
  go_enter Try.func9, Try.ntmps9
  go_wp2
  go_loopw [3, 4] (fun n i wr => ∃ (k : Nat) (z : Int), k ≤ ls.length ∧ i = .int .i64 k ∧ n = .int .i64 z ∧ 0 ≤ z ∧ z ≤ 300010 ∧ Hid (10 * (k : Int) ≤ z) ∧ Hid (∀ p ∈ ls.take k, (min p.1.length 100000 : Nat) ≤ z ∧ (min p.2.length 100000 : Nat) ≤ z) ∧ Hid (Below w.heap.size w wr)) (fun _ i _ => ls.length - (intOf i).toNat)
  case atStart => exact ⟨0, 0, Nat.zero_le _, rfl, rfl, by omega, by omega, by show _ ≤ _; omega, by show ∀ p ∈ _, _; simp, Below.refl _ _⟩
  case round =>
    obtain ⟨k, z, hk, rfl, rfl, hz0, hz, HZK, HA, HB⟩ := hrel
    have HR : Hid ((∀ p ∈ ls.take k, (min p.1.length 100000 : Nat) ≤ z ∧ (min p.2.length 100000 : Nat) ≤ z) ∧ Below w.heap.size w wr) := ⟨HA.out, HB.out⟩
    clear HA HB
    by_cases hlt : k < ls.length
    · by_cases hz2 : z < 100000
      · have hg : ls[k]? = some ls[k] := List.getElem?_eq_getElem hlt
        generalize ls[k] = p at hg
        obtain ⟨b, o, Au, cu, Av, cv, rfl, c1, c2, s1, s2, q1, q2, q3, q4⟩ := (HP.out.on HR.out.2).at hg
        have HN : Hid (∀ q ∈ ls.take (k + 1), (min q.1.length 100000 : Nat) ≤ z + 10 + (min p.1.length 100000 : Nat) + (min p.2.length 100000 : Nat) ∧ (min q.2.length 100000 : Nat) ≤ z + 10 + (min p.1.length 100000 : Nat) + (min p.2.length 100000 : Nat)) := by
          intro q hq
          rw [take_next hg] at hq
          rcases List.mem_append.1 hq with e | e
          · have := HR.out.1 q e
            omega
          · rw [List.mem_singleton.1 e]; omega
        unfold maxLen at q2 q4
        clear s1 s2 hg
        by_cases ha : 100000 < p.1.length
        · have ha1 : (100000 : Int) < (p.1.length : Int) := by omega
          have HM1 : Hid (min p.1.length 100000 = 100000) := by show _ = _; omega
          by_cases hb : 100000 < p.2.length
          · have hb1 : (100000 : Int) < (p.2.length : Int) := by omega
            have HM2 : Hid (min p.2.length 100000 = 100000) := by show _ = _; omega
            have e1 : IntKind.i64.wrap (z + 10) = z + 10 := IntWalk.i64_in _ (by omega)
            have e2 : IntKind.i64.wrap (z + 10 + 100000) = z + 10 + 100000 := IntWalk.i64_in _ (by omega)
            have e3 : IntKind.i64.wrap (z + 10 + 100000 + 100000) = z + 10 + 100000 + 100000 := IntWalk.i64_in _ (by omega)
            go_wp2_with fail
            go_quiet (fail)
            clear e1 e2 e3
            go_wp2
            go_roundw
            case rel => exact ⟨k + 1, z + 10 + (min p.1.length 100000 : Nat) + (min p.2.length 100000 : Nat), by omega, by go_num, by rw [HM1.out, HM2.out]; first | done | go_num, by omega, by omega, by have := HZK.out; show _ ≤ _; omega, HN, below_drewN HR.out.2 _⟩
            case measure => simp [intOf]; omega
          · have hb1 : ¬(100000 : Int) < (p.2.length : Int) := by omega
            have HM2 : Hid (min p.2.length 100000 = p.2.length) := by show _ = _; omega
            have e1 : IntKind.i64.wrap (z + 10) = z + 10 := IntWalk.i64_in _ (by omega)
            have e2 : IntKind.i64.wrap (z + 10 + 100000) = z + 10 + 100000 := IntWalk.i64_in _ (by omega)
            have e3 : IntKind.i64.wrap (z + 10 + 100000 + (p.2.length : Int)) = z + 10 + 100000 + (p.2.length : Int) := IntWalk.i64_in _ (by omega)
            go_wp2_with fail
            go_quiet (fail)
            clear e1 e2 e3
            go_wp2
            go_roundw
            case rel => exact ⟨k + 1, z + 10 + (min p.1.length 100000 : Nat) + (min p.2.length 100000 : Nat), by omega, by go_num, by rw [HM1.out, HM2.out]; first | done | go_num, by omega, by omega, by have := HZK.out; show _ ≤ _; omega, HN, below_drewN HR.out.2 _⟩
            case measure => simp [intOf]; omega
        · have ha1 : ¬(100000 : Int) < (p.1.length : Int) := by omega
          have HM1 : Hid (min p.1.length 100000 = p.1.length) := by show _ = _; omega
          by_cases hb : 100000 < p.2.length
          · have hb1 : (100000 : Int) < (p.2.length : Int) := by omega
            have HM2 : Hid (min p.2.length 100000 = 100000) := by show _ = _; omega
            have e1 : IntKind.i64.wrap (z + 10) = z + 10 := IntWalk.i64_in _ (by omega)
            have e2 : IntKind.i64.wrap (z + 10 + (p.1.length : Int)) = z + 10 + (p.1.length : Int) := IntWalk.i64_in _ (by omega)
            have e3 : IntKind.i64.wrap (z + 10 + (p.1.length : Int) + 100000) = z + 10 + (p.1.length : Int) + 100000 := IntWalk.i64_in _ (by omega)
            go_wp2_with fail
            go_quiet (fail)
            clear e1 e2 e3
            go_wp2
            go_roundw
            case rel => exact ⟨k + 1, z + 10 + (min p.1.length 100000 : Nat) + (min p.2.length 100000 : Nat), by omega, by go_num, by rw [HM1.out, HM2.out]; first | done | go_num, by omega, by omega, by have := HZK.out; show _ ≤ _; omega, HN, below_drewN HR.out.2 _⟩
            case measure => simp [intOf]; omega
          · have hb1 : ¬(100000 : Int) < (p.2.length : Int) := by omega
            have HM2 : Hid (min p.2.length 100000 = p.2.length) := by show _ = _; omega
            have e1 : IntKind.i64.wrap (z + 10) = z + 10 := IntWalk.i64_in _ (by omega)
            have e2 : IntKind.i64.wrap (z + 10 + (p.1.length : Int)) = z + 10 + (p.1.length : Int) := IntWalk.i64_in _ (by omega)
            have e3 : IntKind.i64.wrap (z + 10 + (p.1.length : Int) + (p.2.length : Int)) = z + 10 + (p.1.length : Int) + (p.2.length : Int) := IntWalk.i64_in _ (by omega)
            go_wp2_with fail
            go_quiet (fail)
            clear e1 e2 e3
            go_wp2
            go_roundw
            case rel => exact ⟨k + 1, z + 10 + (min p.1.length 100000 : Nat) + (min p.2.length 100000 : Nat), by omega, by go_num, by rw [HM1.out, HM2.out]; first | done | go_num, by omega, by omega, by have := HZK.out; show _ ≤ _; omega, HN, below_drewN HR.out.2 _⟩
            case measure => simp [intOf]; omega
      · go_wp2
        go_ret
        refine ⟨true, ret_bool ?_, fun h => (by cases h), HR.out.2⟩
        first | rfl | (simp; omega)
    · obtain rfl : k = ls.length := by omega
      go_wp2
      go_ret
      refine ⟨decide (100000 ≤ z), ret_bool ?_, fun h => ?_, HR.out.2⟩
      · first | rfl | (rw [Bool.eq_iff_iff]; simp; omega)
      · have hzz : z < 100000 := by simpa using h
        have := HZK.out
        have h1 := HR.out.1
        rw [List.take_length] at h1
        refine ⟨⟨by omega, fun p hp => ?_⟩, by omega⟩
        have := h1 p hp
        omega
end Go.Proofs.Ytfcoccmbabmihaa
