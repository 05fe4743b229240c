/- Plain facts: what was read is written as it stood; what stands behind changes nothing of what is read. Conditions: those in each theorem. -/
import Derived.Test.YtecjkmemihmkcaaDoorO
namespace Go.Proofs.YtecjkmemihmkcaaDoor
set_option maxRecDepth 100000
open Go.RowKit

/-- the four bytes of a length are those that stood there -/
theorem be_cnt {l : List Int} (hb : Byt l) {p : Nat} (h : p + 4 ≤ l.length) : be (cnt l p) 3 4 = (l.drop p).take 4 := by
  have h1 := cnt_val hb (p : Int)
  rw [Int.toNat_natCast] at h1
  rw [h1]
  exact be_val4 (by rw [List.length_take, List.length_drop]; omega) (hb.sub fun x hx => List.mem_of_mem_drop (List.mem_of_mem_take hx))

/-- a byte string that was read, written again -/
theorem bytes_again {l : List Int} (hb : Byt l) {p : Nat} (h : bytesE l (p : Int) = 0) : be (cnt l p) 3 4 ++ bytesA l p = (l.drop p).take (4 + cnt l p) := by
  have h1 := bytesE_0 h
  rw [be_cnt hb (by omega), bytesA, Int.toNat_natCast, List.take_add, List.drop_drop]

/-- byte strings that were read, written again -/
theorem items_again {l : List Int} (hb : Byt l) {q : Nat} (hq : q ≤ l.length) : ∀ {k : Nat}, ferr l (q : Int) k = 0 →
    ∃ o : Nat, offs l (q : Int) k = o ∧ q ≤ o ∧ o ≤ l.length ∧ (items l (q : Int) k).flatMap (fun s => be s.length 3 4 ++ s) = (l.drop q).take (o - q)
  | 0, _ => ⟨q, rfl, Nat.le_refl _, hq, by simp [items]⟩
  | k + 1, h => by
    have h1 := ferr_up h
    obtain ⟨o, ho, h2, h3, h4⟩ := items_again hb hq h1.1
    have h5 := h1.2
    rw [ho] at h5
    have h6 := bytesE_0 h5
    have h7 := bytesA_length h5
    have h8 := bytes_again hb h5
    refine ⟨o + 4 + cnt l o, ?_, by omega, by omega, ?_⟩
    · simp only [offs, bytesB]
      rw [ho]
      omega
    · have e : items l (q : Int) (k + 1) = items l (q : Int) k ++ [bytesA l o] := by
        simp [items, List.range_succ, ho]
      rw [e, List.flatMap_append, h4]
      simp only [List.flatMap_cons, List.flatMap_nil, List.append_nil]
      rw [h7, h8, show o + 4 + cnt l o - q = (o - q) + (4 + cnt l o) by omega, List.take_add (l := l.drop q) (i := o - q) (j := 4 + cnt l o), List.drop_drop, show q + (o - q) = o by omega]

/-- a row that was read, written again -/
theorem row_again {l : List Int} (hb : Byt l) (h : rowE l (0 : Int) = 0) : ∃ o : Nat, offs l ((0 : Int) + 4) (cnt l 0) = o ∧ o ≤ l.length ∧ rowBytes (items l ((0 : Int) + 4) (cnt l 0)) = l.take o := by
  obtain ⟨h1, h2⟩ := rowE_0 h
  have h3 := cntE_0 h1
  obtain ⟨o, ho, h4, h5, h6⟩ := items_again (q := 4) hb (by omega) h2
  refine ⟨o, ho, h5, ?_⟩
  have hl : (items l ((0 : Int) + 4) (cnt l 0)).length = cnt l 0 := items_length _ _ _
  have hc := be_cnt (p := 0) hb (by omega)
  rw [List.drop_zero] at hc
  rw [rowBytes, hl]
  have e1 : bsTo (items l ((0 : Int) + 4) (cnt l 0)) (cnt l 0) = (l.drop 4).take (o - 4) := by
    rw [bsTo, List.take_of_length_le (by omega)]
    exact h6
  rw [e1]
  have e2 : be (cnt l 0) 3 4 = l.take 4 := hc
  rw [e2, show o = 4 + (o - 4) by omega, List.take_add, show 4 + (o - 4) - 4 = o - 4 by omega]

theorem row_again_good {l : List Int} (h : rowE l (0 : Int) = 0) : cnt l 0 ≤ 1024 ∧ ∀ s ∈ items l ((0 : Int) + 4) (cnt l 0), s.length ≤ 65536 := by
  obtain ⟨h1, h2⟩ := rowE_0 h
  have h3 := cntE_0 h1
  refine ⟨by omega, fun s hs => ?_⟩
  simp only [items, List.mem_map, List.mem_range] at hs
  obtain ⟨j, hj, rfl⟩ := hs
  have h4 := (ferr_up (ferr_le (k := cnt l 0) (show j + 1 ≤ cnt l 0 by omega) h2)).2
  rw [bytesA_length h4]
  exact (bytesE_0 h4).2.2.2.2

/-- behind -/
theorem cnt_more {l r : List Int} {p : Int} (h0 : 0 ≤ p) (h : p + 4 ≤ l.length) : cnt (l ++ r) p = cnt l p := by
  unfold cnt
  rw [List.drop_append_of_le_length (by omega), List.take_append_of_le_length (by rw [List.length_drop]; omega)]
theorem cntE_more {l r : List Int} {p most : Int} (h : cntE l p most = 0) : cntE (l ++ r) p most = 0 := by
  have h1 := cntE_0 h
  have hl : (l ++ r).length = l.length + r.length := List.length_append
  unfold cntE
  rw [if_pos (room_0 (by omega) (by omega) (by omega)), cnt_more h1.1 h1.2.1, if_neg (by omega)]
theorem bytes_more {l r : List Int} {p : Int} (h : bytesE l p = 0) : bytesE (l ++ r) p = 0 ∧ cnt (l ++ r) p = cnt l p ∧ bytesA (l ++ r) p = bytesA l p ∧ bytesB (l ++ r) p = bytesB l p := by
  obtain ⟨h1, h2, h3, h4, h5⟩ := bytesE_0 h
  have hl : (l ++ r).length = l.length + r.length := List.length_append
  have hc := cnt_more (r := r) h3 (show p + 4 ≤ l.length by omega)
  refine ⟨?_, hc, ?_, ?_⟩
  · unfold bytesE
    rw [if_pos (cntE_more h1), hc]
    exact room_0 (by omega) (by omega) (by omega)
  · unfold bytesA
    rw [hc, List.drop_append_of_le_length (by omega), List.take_append_of_le_length (by rw [List.length_drop]; omega)]
  · unfold bytesB
    rw [hc]
theorem rows_more {l r : List Int} {q : Int} : ∀ {k : Nat}, ferr l q k = 0 → ferr (l ++ r) q k = 0 ∧ offs (l ++ r) q k = offs l q k
  | 0, _ => ⟨rfl, rfl⟩
  | k + 1, h => by
    have h1 := ferr_up h
    obtain ⟨i1, i2⟩ := rows_more (r := r) h1.1
    have h2 := bytes_more (r := r) h1.2
    refine ⟨?_, ?_⟩
    · simp only [ferr]
      rw [if_pos i1, i2]
      exact h2.1
    · simp only [offs]
      rw [i2]
      exact h2.2.2.2
theorem row_more {l r : List Int} {p : Int} (h : rowE l p = 0) : rowE (l ++ r) p = 0 ∧ cnt (l ++ r) p = cnt l p ∧ items (l ++ r) (p + 4) (cnt l p) = items l (p + 4) (cnt l p) ∧ offs (l ++ r) (p + 4) (cnt l p) = offs l (p + 4) (cnt l p) := by
  obtain ⟨h1, h2⟩ := rowE_0 h
  have h3 := cntE_0 h1
  have hc := cnt_more (r := r) h3.1 h3.2.1
  obtain ⟨g1, g2⟩ := rows_more (r := r) h2
  refine ⟨?_, hc, ?_, g2⟩
  · unfold rowE
    rw [if_pos (cntE_more h1), hc]
    exact g1
  · unfold items
    refine List.map_congr_left fun j hj => ?_
    have hj' := List.mem_range.1 hj
    have h4 := ferr_le (k := cnt l p) (show j + 1 ≤ cnt l p by omega) h2
    obtain ⟨_, k2⟩ := rows_more (r := r) (ferr_up h4).1
    rw [k2]
    exact (bytes_more (ferr_up h4).2).2.2.1
theorem num_more {l r : List Int} {p : Int} (h : roomV l.length p 8 = 0) : roomV (l ++ r).length p 8 = 0 ∧ numA (l ++ r) p = numA l p ∧ numB (l ++ r) p = numB l p := by
  have h1 := room_is0 h
  have hl : (l ++ r).length = l.length + r.length := List.length_append
  have h2 : roomV (l ++ r).length p 8 = 0 := room_0 (by omega) (by omega) (by omega)
  refine ⟨h2, ?_, ?_⟩
  · unfold numA
    rw [if_pos h, if_pos h2, List.drop_append_of_le_length (by omega), List.take_append_of_le_length (by rw [List.length_drop]; omega)]
  · unfold numB
    rw [if_pos h, if_pos h2]
end Go.Proofs.YtecjkmemihmkcaaDoor
