/- Plain facts: a row's bytes, a byte string's and a number's, cut anywhere, end too early. Conditions: those in each theorem. -/
import Derived.Test.YtecjkmemihmkcaaDoorM
namespace Go.Proofs.YtecjkmemihmkcaaDoor
set_option maxRecDepth 100000
open Go.RowKit

theorem cnt_take {l : List Int} {t p : Nat} (h : p + 4 ≤ t) : cnt (l.take t) p = cnt l p := by
  unfold cnt
  rw [Int.toNat_natCast, List.drop_take, List.take_take, Nat.min_eq_left (by omega)]

theorem room_11 {n : Nat} {p size : Int} (h0 : 0 ≤ p) (h1 : p ≤ n) (h2 : (n : Int) < p + size) : roomV n p size = 11 := by
  unfold roomV
  rw [if_neg (by omega), if_pos (by omega)]

theorem bytes_cut {l : List Int} {p t : Nat} {s r : List Int} (h : l.drop p = be s.length 3 4 ++ (s ++ r)) (hs : s.length ≤ 65536) (ht0 : p ≤ t) (ht : t < p + 4 + s.length) : bytesE (l.take t) p = 11 := by
  have h2 := (cnt_at h (by omega)).2
  rw [List.length_append] at h2
  have hlen : (l.take t).length = t := by rw [List.length_take]; omega
  by_cases h4 : p + 4 ≤ t
  · have hc : cnt (l.take t) p = s.length := by rw [cnt_take h4]; exact (cnt_at h (by omega)).1
    have hE : cntE (l.take t) p 65536 = 0 := by
      unfold cntE
      rw [hlen, if_pos (room_0 (by omega) (by omega) (by omega)), hc, if_neg (by omega)]
    unfold bytesE
    rw [if_pos hE, hlen, hc]
    exact room_11 (by omega) (by omega) (by omega)
  · have hr : roomV (l.take t).length p 4 = 11 := by rw [hlen]; exact room_11 (by omega) (by omega) (by omega)
    have hE : cntE (l.take t) p 65536 = 11 := by unfold cntE; rw [if_neg (by omega)]; exact hr
    unfold bytesE
    rw [if_neg (by omega)]
    exact hE

theorem bytes_uncut {l : List Int} {p t : Nat} {s r : List Int} (h : l.drop p = be s.length 3 4 ++ (s ++ r)) (hs : s.length ≤ 65536) (ht : p + 4 + s.length ≤ t) :
    bytesE (l.take t) p = 0 ∧ bytesB (l.take t) p = (p : Int) + 4 + s.length := by
  have h3 : (l.take t).drop p = be s.length 3 4 ++ (s ++ r.take (t - (p + 4 + s.length))) := by
    rw [List.drop_take, h, List.take_append, List.take_append, be_length, List.take_of_length_le (by rw [be_length]; omega), List.take_of_length_le (by omega)]
    congr 3
    omega
  obtain ⟨_, g2, _, g4, _⟩ := bytes_at h3 hs
  exact ⟨g2, g4⟩

theorem row_cut {ls : List (List Int)} {t : Nat} (hn : ls.length ≤ 1024) (hgood : ∀ s ∈ ls, s.length ≤ 65536) (ht : t < (rowBytes ls).length) : rowE ((rowBytes ls).take t) (0 : Int) = 11 := by
  have hlen : ((rowBytes ls).take t).length = t := by rw [List.length_take]; omega
  by_cases h4 : 4 ≤ t
  · have h0 : (rowBytes ls).drop 0 = be ls.length 3 4 ++ (bsTo ls ls.length ++ []) := by simp [rowBytes]
    have hc : cnt ((rowBytes ls).take t) ((0 : Nat) : Int) = ls.length := by rw [cnt_take (by omega)]; exact (cnt_at h0 (by omega)).1
    have hE : cntE ((rowBytes ls).take t) ((0 : Nat) : Int) 1024 = 0 := by
      unfold cntE
      rw [hlen, if_pos (room_0 (by omega) (by omega) (by omega)), hc, if_neg (by omega)]
    have key : ∀ k, k ≤ ls.length → (4 + szTo ls k ≤ t → offs ((rowBytes ls).take t) (((0 : Nat) : Int) + 4) k = 4 + szTo ls k ∧ ferr ((rowBytes ls).take t) (((0 : Nat) : Int) + 4) k = 0) ∧ (t < 4 + szTo ls k → ferr ((rowBytes ls).take t) (((0 : Nat) : Int) + 4) k = 11) := by
      intro k
      induction k with
      | zero => intro _; rw [szTo_zero]; exact ⟨fun _ => ⟨by simp [offs], rfl⟩, fun h => by omega⟩
      | succ k ih =>
        intro hk
        obtain ⟨i1, i2⟩ := ih (by omega)
        obtain ⟨s, hs⟩ : ∃ s, ls[k]? = some s := ⟨_, List.getElem?_eq_getElem (by omega)⟩
        have hsl := hgood s (List.mem_of_getElem? hs)
        rw [szTo_next hs]
        by_cases ho : 4 + szTo ls k ≤ t
        · obtain ⟨j1, j2⟩ := i1 ho
          obtain ⟨r1, g1, g2⟩ := bsTo_split ls k (by omega)
          obtain ⟨r2, rfl⟩ := g2 s hs
          have h5 : (rowBytes ls).drop (4 + szTo ls k) = be s.length 3 4 ++ (s ++ r2) := by
            rw [← List.drop_drop, rowBytes, List.drop_left' (be_length _ _ _), g1, List.drop_left' (bsTo_length ls k (by omega))]
          have ec : ((4 + szTo ls k : Nat) : Int) = 4 + (szTo ls k : Int) := by omega
          refine ⟨fun hle => ?_, fun hlt => ?_⟩
          · obtain ⟨u1, u2⟩ := bytes_uncut (t := t) h5 hsl (by omega)
            rw [ec] at u1 u2
            refine ⟨?_, ?_⟩
            · simp only [offs]
              rw [j1, u2]
              omega
            · simp only [ferr]
              rw [if_pos j2, j1, u1]
          · have u1 := bytes_cut (t := t) h5 hsl ho (by omega)
            rw [ec] at u1
            simp only [ferr]
            rw [if_pos j2, j1, u1]
        · refine ⟨fun hle => by omega, fun _ => ?_⟩
          have := i2 (by omega)
          simp only [ferr]
          rw [if_neg (by omega)]
          exact this
    have := (key ls.length (Nat.le_refl _)).2 (by rw [rowBytes_length] at ht; omega)
    show rowE ((rowBytes ls).take t) ((0 : Nat) : Int) = 11
    unfold rowE
    rw [if_pos hE, hc]
    exact this
  · have hr : roomV ((rowBytes ls).take t).length 0 4 = 11 := by rw [hlen]; exact room_11 (by omega) (by omega) (by omega)
    have hE : cntE ((rowBytes ls).take t) 0 1024 = 11 := by unfold cntE; rw [if_neg (by omega)]; exact hr
    unfold rowE
    rw [if_neg (by omega)]
    exact hE

theorem num_cut {n : Int} {t : Nat} (ht : t < 8) : roomV ((be n 7 8).take t).length 0 8 = 11 ∧ ((be n 7 8).take t).length = t := by
  have hlen : ((be n 7 8).take t).length = t := by rw [List.length_take, be_length]; omega
  exact ⟨by rw [hlen]; exact room_11 (by omega) (by omega) (by omega), hlen⟩

/-- the first part of a slice -/
theorem Lies.pre {w : World} {B : Nat} {A : Option Addr} {c : Nat} {l : List Int} (h : Lies w B A c (cellsOf l)) (t : Nat) : Lies w B A c (cellsOf (l.take t)) := by
  refine ⟨h.1, fun j u hu => h.2 j u ?_⟩
  have hj : j < t := by
    have := (List.getElem?_eq_some_iff.1 hu).1
    simp at this
    omega
  simpa [cellsOf, List.getElem?_take, hj] using hu
theorem Byt.pre {l : List Int} (h : Byt l) (t : Nat) : Byt (l.take t) := h.sub fun _ hx => List.mem_of_mem_take hx
end Go.Proofs.YtecjkmemihmkcaaDoor
