/- Plain facts: what was written is read back, whatever stands ahead and behind. Conditions: those in each theorem. -/
import Derived.Test.YtecjkmemihmkcaaDoorK
namespace Go.Proofs.YtecjkmemihmkcaaDoor
set_option maxRecDepth 100000
open Go.RowKit

theorem be4 (n : Int) : be n 3 4 = [n / 16777216 % 256, n / 65536 % 256, n / 256 % 256, n % 256] := by
  simp [be, List.range_succ]
theorem be8 (n : Int) : be n 7 8 = [n / 72057594037927936 % 256, n / 281474976710656 % 256, n / 1099511627776 % 256, n / 4294967296 % 256, n / 16777216 % 256, n / 65536 % 256, n / 256 % 256, n % 256] := by
  simp [be, List.range_succ]
theorem val_be4 {n : Int} (h0 : 0 ≤ n) (h1 : n < 4294967296) : val (be n 3 4) = n := by
  rw [be4]
  simp only [val, List.foldl_cons, List.foldl_nil]
  omega
theorem val_be8 {n : Int} (h0 : -9223372036854775808 ≤ n) (h1 : n ≤ 9223372036854775807) : wrap64 (val (be n 7 8)) = n := by
  rw [be8]
  simp only [val, List.foldl_cons, List.foldl_nil, wrap64]
  omega

theorem four_of {l : List Int} (h : l.length = 4) : ∃ a b c d, l = [a, b, c, d] := by
  match l, h with
  | [a, b, c, d], _ => exact ⟨a, b, c, d, rfl⟩
theorem eight_of {l : List Int} (h : l.length = 8) : ∃ a b c d e f g i, l = [a, b, c, d, e, f, g, i] := by
  match l, h with
  | [a, b, c, d, e, f, g, i], _ => exact ⟨a, b, c, d, e, f, g, i, rfl⟩
theorem be_val4 {l : List Int} (h : l.length = 4) (hb : Byt l) : be (val l) 3 4 = l := by
  obtain ⟨a, b, c, d, rfl⟩ := four_of h
  have ha := hb a (by simp)
  have hb' := hb b (by simp)
  have hc := hb c (by simp)
  have hd := hb d (by simp)
  rw [be4]
  simp only [val, List.foldl_cons, List.foldl_nil, List.cons.injEq, and_true]
  refine ⟨?_, ?_, ?_, ?_⟩ <;> omega
theorem be_val8 {l : List Int} (h : l.length = 8) (hb : Byt l) : be (wrap64 (val l)) 7 8 = l := by
  obtain ⟨a, b, c, d, e, f, g, i, rfl⟩ := eight_of h
  have ha := hb a (by simp)
  have hb' := hb b (by simp)
  have hc := hb c (by simp)
  have hd := hb d (by simp)
  have he := hb e (by simp)
  have hf := hb f (by simp)
  have hg := hb g (by simp)
  have hi := hb i (by simp)
  rw [be8]
  simp only [val, List.foldl_cons, List.foldl_nil, List.cons.injEq, and_true, wrap64]
  refine ⟨?_, ?_, ?_, ?_, ?_, ?_, ?_, ?_⟩ <;> omega

/-- a length that was written -/
theorem cnt_at {l : List Int} {p m : Nat} {r : List Int} (h : l.drop p = be m 3 4 ++ r) (hm : m < 4294967296) : cnt l p = m ∧ p + 4 + r.length = l.length := by
  have h1 : (l.drop p).take 4 = be m 3 4 := by rw [h, List.take_left' (be_length _ _ _)]
  have h2 : val (be m 3 4) = m := val_be4 (by omega) (by omega)
  have h3 := congrArg List.length h
  rw [List.length_drop, List.length_append, be_length] at h3
  refine ⟨?_, by omega⟩
  unfold cnt
  rw [Int.toNat_natCast, h1, h2, Int.toNat_natCast]

theorem cntE_at {l : List Int} {p m : Nat} {r : List Int} (h : l.drop p = be m 3 4 ++ r) (hm : m < 4294967296) {most : Int} (hmost : (m : Int) ≤ most) : cntE l p most = 0 := by
  obtain ⟨h1, h2⟩ := cnt_at h hm
  unfold cntE
  rw [if_pos (room_0 (by omega) (by omega) (by omega)), if_neg (by omega)]

/-- a byte string that was written -/
theorem bytes_at {l : List Int} {p : Nat} {s r : List Int} (h : l.drop p = be s.length 3 4 ++ (s ++ r)) (hs : s.length ≤ 65536) :
    cnt l p = s.length ∧ bytesE l p = 0 ∧ bytesA l p = s ∧ bytesB l p = (p : Int) + 4 + s.length ∧ l.drop (p + 4 + s.length) = r := by
  obtain ⟨h1, h2⟩ := cnt_at h (by omega)
  rw [List.length_append] at h2
  have h3 := cntE_at h (by omega) (most := 65536) (by omega)
  have h4 : l.drop (p + 4) = s ++ r := by
    rw [← List.drop_drop, h, List.drop_left' (be_length _ _ _)]
  refine ⟨h1, ?_, ?_, ?_, ?_⟩
  · unfold bytesE
    rw [if_pos h3, h1]
    exact room_0 (by omega) (by omega) (by omega)
  · unfold bytesA
    rw [Int.toNat_natCast, h4, h1, List.take_left' rfl]
  · unfold bytesB
    rw [h1]
  · rw [← List.drop_drop, h4, List.drop_left' rfl]

/-- what stands behind the first k byte strings of a row -/
theorem bsTo_split (ls : List (List Int)) : ∀ k, k ≤ ls.length → ∃ r, bsTo ls ls.length = bsTo ls k ++ r ∧ ∀ l, ls[k]? = some l → ∃ r', r = be l.length 3 4 ++ (l ++ r') := by
  intro k hk
  refine ⟨(ls.drop k).flatMap fun l => be l.length 3 4 ++ l, ?_, fun l hl => ?_⟩
  · unfold bsTo
    rw [List.take_length, ← List.flatMap_append, List.take_append_drop]
  · have hkl : k < ls.length := (List.getElem?_eq_some_iff.1 hl).1
    have e : ls.drop k = l :: ls.drop (k + 1) := by
      rw [List.drop_eq_getElem_cons hkl]
      congr 1
      have := List.getElem?_eq_getElem hkl
      rw [hl] at this
      injection this with this
      exact this.symm
    exact ⟨_, by rw [e, List.flatMap_cons, List.append_assoc]⟩

/-- a row that was written -/
theorem row_at {l : List Int} {p : Nat} {ls : List (List Int)} {r : List Int} (h : l.drop p = rowBytes ls ++ r) (hn : ls.length ≤ 1024) (hgood : ∀ s ∈ ls, s.length ≤ 65536) :
    cnt l p = ls.length ∧ cntE l p 1024 = 0 ∧ ∀ k, k ≤ ls.length → offs l ((p : Int) + 4) k = (p : Int) + 4 + szTo ls k ∧ ferr l ((p : Int) + 4) k = 0 ∧ items l ((p : Int) + 4) k = ls.take k := by
  have h' : l.drop p = be ls.length 3 4 ++ (bsTo ls ls.length ++ r) := by rw [h, rowBytes, List.append_assoc]
  obtain ⟨h1, h2⟩ := cnt_at h' (by omega)
  have h3 := cntE_at h' (by omega) (most := 1024) (by omega)
  have h4 : l.drop (p + 4) = bsTo ls ls.length ++ r := by rw [← List.drop_drop, h', List.drop_left' (be_length _ _ _)]
  refine ⟨h1, h3, ?_⟩
  intro k
  induction k with
  | zero => intro _; exact ⟨by simp [offs, szTo], rfl, by simp [items]⟩
  | succ k ih =>
    intro hk
    obtain ⟨i1, i2, i3⟩ := ih (by omega)
    obtain ⟨s, hs⟩ : ∃ s, ls[k]? = some s := ⟨_, List.getElem?_eq_getElem (by omega)⟩
    obtain ⟨r1, g1, g2⟩ := bsTo_split ls k (by omega)
    obtain ⟨r2, rfl⟩ := g2 s hs
    have h5 : l.drop (p + 4 + szTo ls k) = be s.length 3 4 ++ (s ++ (r2 ++ r)) := by
      rw [← List.drop_drop, h4, g1, List.append_assoc, List.drop_left' (bsTo_length ls k (by omega)), List.append_assoc, List.append_assoc]
    obtain ⟨b1, b2, b3, b4, _⟩ := bytes_at h5 (hgood s (List.mem_of_getElem? hs))
    have e : ((p + 4 + szTo ls k : Nat) : Int) = (p : Int) + 4 + szTo ls k := by omega
    rw [e] at b1 b2 b3 b4
    refine ⟨?_, ?_, ?_⟩
    · simp only [offs]
      rw [i1, b4, szTo_next hs]
      omega
    · simp only [ferr]
      rw [if_pos i2, i1, b2]
    · rw [take_next hs, ← i3]
      simp [items, List.range_succ, i1, b3]

theorem row_read {l : List Int} {p : Nat} {ls : List (List Int)} {r : List Int} (h : l.drop p = rowBytes ls ++ r) (hn : ls.length ≤ 1024) (hgood : ∀ s ∈ ls, s.length ≤ 65536) :
    cnt l p = ls.length ∧ rowE l p = 0 ∧ items l ((p : Int) + 4) ls.length = ls ∧ offs l ((p : Int) + 4) ls.length = (p : Int) + (rowBytes ls).length := by
  obtain ⟨h1, h2, h3⟩ := row_at h hn hgood
  obtain ⟨g1, g2, g3⟩ := h3 ls.length (Nat.le_refl _)
  refine ⟨h1, ?_, ?_, ?_⟩
  · unfold rowE
    rw [if_pos h2, h1]
    exact g2
  · rw [g3, List.take_length]
  · rw [g1, rowBytes_length]
    omega

end Go.Proofs.YtecjkmemihmkcaaDoor
