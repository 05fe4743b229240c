/- What a row of the call's own is behind a store of its last element; nothing of the program but the types' sizes. Conditions: those in each theorem. -/
import Derived.Test.YtoicncfpoklanaaDoorPg
namespace Go.Proofs.YtoicncfpoklanaaDoor
open Go.RowKit
set_option maxRecDepth 100000
set_option linter.unusedSimpArgs false

theorem setCells_row (g : Nat) (e : TypeId) : ∀ (cs : List Value) (o : Nat) (w : World) (cur : Array Value), w.heap[g]? = some (.cells cur e (0, 0)) → o + cs.length ≤ cur.size →
    ∃ cur' : Array Value, (w.setCells g o cs).heap[g]? = some (.cells cur' e (0, 0)) ∧ cur'.size = cur.size ∧ cur'.toList = cur.toList.take o ++ cs ++ cur.toList.drop (o + cs.length)
  | [], o, w, cur, h, _ => ⟨cur, h, rfl, by simp⟩
  | c :: cs, o, w, cur, h, hb => by
    have h1 : (w.setCell ⟨g, o, none⟩ c).heap[g]? = some (.cells (cur.setIfInBounds o c) e (0, 0)) := by
      simp only [World.setCell, Array.getElem?_modify, if_true, h]
      rfl
    simp only [List.length_cons] at hb
    obtain ⟨cur', g1, g2, g3⟩ := setCells_row g e cs (o + 1) (w.setCell ⟨g, o, none⟩ c) (cur.setIfInBounds o c) h1 (by simp; omega)
    refine ⟨cur', g1, by simpa using g2, ?_⟩
    rw [g3]
    have hlt : o < cur.toList.length := by simp; omega
    simp only [Array.toList_setIfInBounds, List.length_cons]
    rw [List.take_add_one, List.drop_set_of_lt (by omega), List.take_set_of_le (Nat.le_refl _)]
    simp [List.getElem?_set, show o < cur.size by simpa using hlt]
    congr 1
    omega
/-- the last element of a row is stored anew -/
theorem own_last {w : World} {lo : Nat} {e : TypeId} {size n : Nat} {V : Value} {xs ys zs : List Value} (h : w.ownsRow lo e size V (n + 1) (xs ++ ys)) (hx : xs.length = n * size) (hz : zs.length = size) (hs : 0 < size) :
    ∃ g cap, V = .slice (some ⟨g, 0, none⟩) (n + 1) cap ∧ lo ≤ g ∧ g < w.heap.size ∧ w.there g (n * size) size ∧ n + 1 ≤ cap ∧ cap ≤ maxLen ∧ (w.setCells g (n * size) zs).ownsRow lo e size V (n + 1) (xs ++ zs) := by
  have hlen := h.1
  rcases h.2 with ⟨rfl, h0⟩ | ⟨g, cap, cur, rfl, hb, hg, hn, hm, hc, ht⟩
  · omega
  · have hmul : (n + 1) * size ≤ cap * size := Nat.mul_le_mul_right _ hn
    have hadd : (n + 1) * size = n * size + size := by rw [Nat.add_mul, Nat.one_mul]
    have hys : ys.length = size := by simp at hlen; omega
    obtain ⟨cur', g1, g2, g3⟩ := setCells_row g e zs (n * size) w cur hg (by omega)
    refine ⟨g, cap, rfl, hb, lt_of_block hg, fun j hj => ⟨?_, by simp [World.frozen?, hg]⟩, hn, hm, by simp; omega, .inr ⟨g, cap, cur', rfl, hb, g1, hn, hm, by omega, ?_⟩⟩
    · rw [cell_of_row _ _ _ _ _ _ hg]
      simp
      omega
    · rw [g3]
      have ht1 : cur.toList.take (n * size) = xs := by
        have := congrArg (List.take (n * size)) ht
        rw [List.take_take, Nat.min_eq_left (by omega), List.take_left' hx] at this
        exact this
      rw [ht1, List.take_left' (by simp; omega)]
end Go.Proofs.YtoicncfpoklanaaDoor
