/- VerifyRows: the walk. Conditions: the table of signs lies as the program lays it. -/
import Derived.Test.YtilmidjkjgeoeaaDoorWI
namespace Go.Proofs.YtilmidjkjgeoeaaDoor
open Go.RowKit Go.MapKept
set_option maxRecDepth 100000
set_option linter.unusedVariables false
set_option linter.unusedSimpArgs false
abbrev rC (n : Nat) (extra : Bool) (r : Int) : Cd := ⟨[102], [], r, 0, rowsK n extra ++ [(18, 0)]⟩
abbrev rM (n : Nat) (extra : Bool) (r : Int) : Md := ⟨[rC n extra r], []⟩
theorem rows_len (n : Nat) (extra : Bool) : (rowsK n extra ++ [(18, 0)]).length ≤ 2 * n + 2 := by
  unfold rowsK
  cases extra <;> simp <;> omega
theorem rows_in {n : Nat} {extra : Bool} {i : Ins} (hn : n < 256) (h : i ∈ rowsK n extra ++ [(18, 0)]) : (1 ≤ i.1 ∧ i.1 ≤ 18) ∧ Fit i.2 := by
  unfold Fit
  unfold rowsK at h
  rcases List.mem_append.1 h with h | h
  · rcases List.mem_append.1 h with h | h
    · rcases List.mem_append.1 h with h | h
      · obtain ⟨j, hj, rfl⟩ := List.mem_map.1 h
        have := List.mem_range.1 hj
        refine ⟨(by show (1 : Int) ≤ 2 ∧ (2 : Int) ≤ 18; decide), ?_⟩
        show -9223372036854775808 ≤ (j : Int) ∧ (j : Int) ≤ 9223372036854775807
        omega
      · rw [(List.mem_replicate.1 h).2]
        decide
    · cases extra
      · simp at h
      · simp at h
        rw [h]
        decide
  · rw [List.mem_singleton.1 h]
    decide
theorem rFit {n : Nat} (extra : Bool) (result : Bool) (hn : n < 256) : MdFit (rM n extra (if result then 1 else 0)) := ⟨fun c hc => by
  rw [List.mem_singleton.1 hc]
  refine ⟨(by show Byt [102]; unfold Byt; decide), fun t ht => (by cases ht), ?_, (by show Fit 0; unfold Fit; decide), fun i hi => ?_⟩
  · show Fit (if result then 1 else 0)
    cases result <;> (unfold Fit; decide)
  · have h := rows_in hn hi
    unfold Fit at h ⊢
    omega, fun s hs => by cases hs⟩
theorem rOk {n : Nat} (extra : Bool) (result : Bool) (hn : n < 256) : okMd (rM n extra (if result then 1 else 0)) = true := by
  have hl := rows_len n extra
  have ha : (rowsK n extra ++ [(18, 0)]).all okI = true := List.all_eq_true.2 fun i hi => by
    have := (rows_in hn hi).1
    unfold okI
    simp [this]
  have hl2 : (rowsK n extra ++ [(18, 0)]).length ≤ 16384 := by omega
  have hr : (decide ((if result then (1 : Int) else 0) = 0) || okT (if result then 1 else 0)) = true := by cases result <;> decide
  show (decide (1 ≤ 64) && (decide (0 ≤ 1024) && ((okCd (rC n extra (if result then 1 else 0)) && true) && true))) = true
  have hc : okCd (rC n extra (if result then 1 else 0)) = true := by
    unfold okCd
    simp only [ha, hr, hl2, decide_true, Bool.and_true, Bool.true_and]
    rfl
  rw [hc]
  rfl
theorem rCheck {n : Nat} (extra : Bool) (result : Bool) (hn : n < 256) : checkM (rM n extra (if result then 1 else 0)) = if extra = result then 0 else 131 := by
  have hs : SafeC (rM n extra (if result then 1 else 0)) (rC n extra (if result then 1 else 0)) ↔ extra = result := rows_safe hn
  by_cases h : extra = result
  · rw [if_pos h]
    exact check_all (rOk extra result hn) (rFit extra result hn) (by simp) (fun c hc => by rw [List.mem_singleton.1 hc]; exact hs.2 h)
  · rw [if_neg h]
    exact check_one (rOk extra result hn) (List.mem_singleton.2 rfl) fun k => h (hs.1 k)
end Go.Proofs.YtilmidjkjgeoeaaDoor
