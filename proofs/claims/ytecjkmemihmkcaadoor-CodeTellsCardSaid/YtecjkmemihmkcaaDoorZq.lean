/- Great: it answers a bool. Conditions: none beyond what a module is. -/
import Derived.Test.YtecjkmemihmkcaaDoorZo
namespace Go.Proofs.YtecjkmemihmkcaaDoor
set_option maxRecDepth 100000
open Go.RowKit
set_option linter.unusedSimpArgs false
set_option linter.unusedVariables false

/-- a call that answers a bool, whatever it is -/
def Some2 (w : World) (e : Ending) (w' : World) : Prop := ∃ b, Says b w e w'

set_option maxHeartbeats 1600000 in
theorem great (m : Md) (V : Value) (w : World) (h : ModV w w.heap.size m V) : Calls Tryd.prog 11 #[V] w (Some2 w) := by
  obtain ⟨C, T, rfl, hC, hT⟩ := h
  obtain ⟨AC, cC, vs, rfl, p1, p2, p3, p4⟩ := hC
  obtain ⟨AT, cT, rfl, q1, q2, q3⟩ := hT
  have HL := Lib.hid p3
  have HS := Lib.hid p4
  have HG := Lib.hid q3
  clear p3 p4 q3
  unfold maxLen at p2 q2
  have HQ : Hid (∀ w', Below (w.heap.size + 1) (w.alloc (.cells #[.slice AC m.codes.length cC, .slice AT m.texts.length cT] 25)) w' → w'.cell? ⟨w.heap.size, 0, none⟩ = some (.slice AC m.codes.length cC) ∧ w'.cell? ⟨w.heap.size, 1, none⟩ = some (.slice AT m.texts.length cT)) := fun w' hb => by
    have hx : w'.heap[w.heap.size]? = some (.cells #[.slice AC m.codes.length cC, .slice AT m.texts.length cT] 25) := by rw [hb.block _ (Nat.lt_succ_self _)]; exact heap_alloc_new w _
    exact ⟨by rw [cell_of_row _ _ _ _ _ _ hx]; rfl, by rw [cell_of_row _ _ _ _ _ _ hx]; rfl⟩
  have HB0 : Hid (Below w.heap.size w (w.alloc (.cells #[.slice AC m.codes.length cC, .slice AT m.texts.length cT] 25))) := Lib.hid ((Below.refl _ _).alloc (Nat.le_refl _) _)
  go_enter Tryd.func11, Tryd.ntmps11
  go_upto_region 2 with fail
  generalize w.alloc (.cells #[.slice AC m.codes.length cC, .slice AT m.texts.length cT] 25) = wa at *
  go_wp2_with fail
  go_loopw [3, 4] (fun n i wr => ∃ (z : Int) (k : Nat), n = .int .i64 z ∧ i = .int .i64 k ∧ 0 ≤ z ∧ z ≤ 1000000 ∧ k ≤ m.codes.length ∧ Below (w.heap.size + 1) wa wr) (fun _ i _ => m.codes.length - (intOf i).toNat)
  case atStart => exact ⟨0, 0, rfl, rfl, by omega, by omega, Nat.zero_le _, Below.refl _ _⟩
  case round =>
    obtain ⟨z, k, rfl, rfl, z0, z1, hk, hb⟩ := hrel
    have HB := Lib.hid hb
    have HBW : Hid (Below w.heap.size w wr) := Lib.hid (HB0.out.trans (hb.mono (Nat.le_succ _)))
    obtain ⟨c0, c1⟩ := HQ.out _ hb
    clear hb
    by_cases hkl : k < m.codes.length
    · by_cases hz : z < 200000
      · obtain ⟨x, hx⟩ : ∃ x, m.codes[k]? = some x := ⟨_, List.getElem?_eq_getElem hkl⟩
        obtain ⟨P, I, hP, hI, hget⟩ := HS.out.get hx
        obtain ⟨AP, cP, rfl, r1, r2, _⟩ := hP
        obtain ⟨AI, cI, rfl, s1, s2, _⟩ := hI
        obtain ⟨b, o, rfl, hB, hcc⟩ := lies_flat HL.out (hget 0 _ rfl)
        unfold maxLen at r2 s2
        have e0 : wr.cell? ⟨b, o + k * 5, none⟩ = some (.string (strOfNums x.name)) := by rw [HBW.out.cell hB]; exact hcc _ _ (hget 0 _ rfl)
        have e1 : wr.cell? ⟨b, o + k * 5 + 1, none⟩ = some (.slice AP x.params.length cP) := by rw [HBW.out.cell hB, Nat.add_assoc]; exact hcc _ _ (hget 1 _ rfl)
        have e4 : wr.cell? ⟨b, o + k * 5 + 4, none⟩ = some (.slice AI x.instrs.length cI) := by rw [HBW.out.cell hB, Nat.add_assoc]; exact hcc _ _ (hget 4 _ rfl)
        have hsz : (strOfNums x.name).size = x.name.length := strOfNums_size _
        clear hx hget hcc
        generalize strOfNums x.name = nm at *
        go_upto_region 5 with fail
        go_quiet (fail)
        have HBN : Hid (Below (w.heap.size + 1) wa (wr.drewN nq)) := Lib.hid (below_drewN HB.out nq)
        go_wp2
        go_roundw
        case rel => exact ⟨_, k + 1, rfl, by go_num, by (split <;> split <;> split <;> omega), by (split <;> split <;> split <;> omega), by omega, HBN.out⟩
        case measure => simp [intOf]; omega
      · have hz2 : 200000 ≤ z := by omega
        go_wp2_with fail
        go_loopw [3, 5] (fun n i wr => ∃ (z : Int) (k : Nat), n = .int .i64 z ∧ i = .int .i64 k ∧ 0 ≤ z ∧ z ≤ 2000000 ∧ k ≤ m.texts.length ∧ Below (w.heap.size + 1) wa wr) (fun _ i _ => m.texts.length - (intOf i).toNat)
        case atStart => exact ⟨z, 0, rfl, rfl, by omega, by omega, Nat.zero_le _, HB.out⟩
        case round =>
          clear HB HBW c0 c1
          obtain ⟨z, k, rfl, rfl, z0, z1, hk, hb⟩ := hrel
          have HB := Lib.hid hb
          have HBW : Hid (Below w.heap.size w wr) := Lib.hid (HB0.out.trans (hb.mono (Nat.le_succ _)))
          obtain ⟨c0, c1⟩ := HQ.out _ hb
          clear hb
          by_cases hkl : k < m.texts.length
          · by_cases hz : z < 200000
            · obtain ⟨x, hx⟩ : ∃ x, m.texts[k]? = some x := ⟨_, List.getElem?_eq_getElem hkl⟩
              obtain ⟨ad, A', c', rfl, hB, hc0, g1, g2, _⟩ := HG.out.2 k x hx
              have e0 : wr.cell? (ad.add k) = some (.slice A' x.length c') := by rw [HBW.out.cell (by rw [addr_block]; exact hB)]; exact hc0
              unfold maxLen at g2
              clear hx hc0
              go_wp2
              all_goals (
                go_roundw
                case rel => exact ⟨_, k + 1, rfl, by go_num, by omega, by omega, by omega, HB.out⟩
                case measure => simp [intOf]; omega)
            · go_wp2
              all_goals go_ret
              all_goals exact ⟨_, rfl, HBW.out⟩
          · go_wp2
            all_goals go_ret
            all_goals exact ⟨_, rfl, HBW.out⟩
    · skip
      go_wp2_with fail
      go_loopw [3, 5] (fun n i wr => ∃ (z : Int) (k : Nat), n = .int .i64 z ∧ i = .int .i64 k ∧ 0 ≤ z ∧ z ≤ 2000000 ∧ k ≤ m.texts.length ∧ Below (w.heap.size + 1) wa wr) (fun _ i _ => m.texts.length - (intOf i).toNat)
      case atStart => exact ⟨z, 0, rfl, rfl, by omega, by omega, Nat.zero_le _, HB.out⟩
      case round =>
        clear HB HBW c0 c1
        obtain ⟨z, k, rfl, rfl, z0, z1, hk, hb⟩ := hrel
        have HB := Lib.hid hb
        have HBW : Hid (Below w.heap.size w wr) := Lib.hid (HB0.out.trans (hb.mono (Nat.le_succ _)))
        obtain ⟨c0, c1⟩ := HQ.out _ hb
        clear hb
        by_cases hkl : k < m.texts.length
        · by_cases hz : z < 200000
          · obtain ⟨x, hx⟩ : ∃ x, m.texts[k]? = some x := ⟨_, List.getElem?_eq_getElem hkl⟩
            obtain ⟨ad, A', c', rfl, hB, hc0, g1, g2, _⟩ := HG.out.2 k x hx
            have e0 : wr.cell? (ad.add k) = some (.slice A' x.length c') := by rw [HBW.out.cell (by rw [addr_block]; exact hB)]; exact hc0
            unfold maxLen at g2
            clear hx hc0
            go_wp2
            all_goals (
              go_roundw
              case rel => exact ⟨_, k + 1, rfl, by go_num, by omega, by omega, by omega, HB.out⟩
              case measure => simp [intOf]; omega)
          · go_wp2
            all_goals go_ret
            all_goals exact ⟨_, rfl, HBW.out⟩
        · go_wp2
          all_goals go_ret
          all_goals exact ⟨_, rfl, HBW.out⟩

end Go.Proofs.YtecjkmemihmkcaaDoor
