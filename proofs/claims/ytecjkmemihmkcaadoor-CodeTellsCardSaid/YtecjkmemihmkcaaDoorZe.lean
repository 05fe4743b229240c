/- What 'Right' returns: whether a module is right. Conditions: none beyond what a module is. -/
import Derived.Test.YtecjkmemihmkcaaDoorZd
namespace Go.Proofs.YtecjkmemihmkcaaDoor
set_option maxRecDepth 100000
open Go.RowKit
set_option linter.unusedSimpArgs false
set_option linter.unusedVariables false

/-- a call that answers a bool, and changes nothing that was there -/
def Says (b : Bool) (w : World) (e : Ending) (w' : World) : Prop := e = .returned (.bool b) ∧ Below w.heap.size w w'

theorem ofValue (t : Int) (w : World) : Calls Tryd.prog 67 #[.int .i64 t] w (Says (okT t) w) := by
  unfold okT
  go_enter Tryd.func67, Tryd.ntmps67
  go_wp2
  all_goals go_ret
  all_goals (refine ⟨?_, Below.refl _ _⟩; simp; omega)

theorem okInstr (i : Int × Int) (w : World) : Calls Tryd.prog 70 #[.agg #[.int .i64 i.1, .int .i64 i.2]] w (Says (okI i) w) := by
  unfold okI
  go_enter Tryd.func70, Tryd.ntmps70
  go_wp2
  all_goals go_ret
  all_goals (refine ⟨?_, (Below.refl _ _).alloc (Nat.le_refl _) _⟩; simp; omega)

theorem okText (A : Option Addr) (n c : Nat) (w : World) (hn : n ≤ maxLen) (b : Bool) (hb : b = decide (n ≤ 64)) : Calls Tryd.prog 41 #[.slice A n c] w (Says b w) := by
  subst hb
  unfold maxLen at hn
  go_enter Tryd.func41, Tryd.ntmps41
  go_wp2
  all_goals go_ret
  all_goals (refine ⟨?_, Below.refl _ _⟩; simp; try omega)

/-- the first k of l are right, and if the next one is not, not all are -/
theorem all_take {α : Type} {f : α → Bool} {l : List α} {k : Nat} {x : α} (hx : l[k]? = some x) (h : (l.take k).all f = true) : (l.take (k + 1)).all f = f x := by
  rw [take_next hx, List.all_append, h]
  simp
theorem all_not {α : Type} {f : α → Bool} {l : List α} {k : Nat} {x : α} (hx : l[k]? = some x) (h : f x = false) : l.all f = false := by
  rw [List.all_eq_false]
  exact ⟨x, List.mem_of_getElem? hx, by rw [h]; decide⟩

set_option maxHeartbeats 800000 in
theorem allTypes (V : Value) (ts : List Int) (w : World) (h : RowL w w.heap.size ts.length (tysV ts) V) : Calls Tryd.prog 68 #[V, .func (.func 67) #[] #[]] w (Says (ts.all okT) w) := by
  obtain ⟨A, c, rfl, h1, h2, h3⟩ := h
  have HL := Lib.hid h3
  have HA : Hid (∀ k x, ts[k]? = some x → okT x = false → ts.all okT = false) := fun k x hx h => all_not hx h
  have HT : Hid (∀ k x, ts[k]? = some x → (ts.take k).all okT = true → (ts.take (k + 1)).all okT = okT x) := fun k x hx h => all_take hx h
  have HE : Hid ((ts.take ts.length).all okT = ts.all okT) := Lib.hid (by rw [List.take_length])
  clear h3
  unfold maxLen at h2
  generalize ts.all okT = r at *
  go_enter Tryd.func68, Tryd.ntmps68
  go_wp2
  go_loopw [9] (fun i wr => ∃ k : Nat, k ≤ ts.length ∧ i = .int .i64 k ∧ (ts.take k).all okT = true ∧ Below w.heap.size w wr) (fun i _ => ts.length - (intOf i).toNat)
  case atStart => exact ⟨0, Nat.zero_le _, rfl, rfl, Below.refl _ _⟩
  case round =>
    obtain ⟨k, hk, rfl, ha, hb⟩ := hrel
    have HB := Lib.hid hb
    have HK := Lib.hid ha
    clear hb ha
    by_cases hkl : k < ts.length
    · obtain ⟨x, hx⟩ : ∃ x, ts[k]? = some x := ⟨_, List.getElem?_eq_getElem hkl⟩
      obtain ⟨ad, rfl, hB, hc0⟩ := HL.out.2 k _ (tysV_at hx)
      have hc : wr.cell? (ad.add k) = some (.int .i64 x) := by rw [HB.out.cell (by rw [addr_block]; exact hB)]; exact hc0
      have HX := Lib.hid hx
      clear hx hc0
      go_wp2_with fail
      refine (ofValue x _).mono ?_
      rintro e w1 ⟨rfl, hb1⟩
      have HB1 : Hid (Below w.heap.size w w1) := Lib.hid (HB.out.trans (hb1.mono HB.out.size))
      clear hb1
      cases hq : okT x with
      | true =>
        have HN := Lib.hid ((HT.out k x HX.out HK.out).trans hq)
        clear hq
        go_wp2
        go_roundw
        case rel => exact ⟨k + 1, by omega, by go_num, HN.out, HB1.out⟩
        case measure => simp [intOf]; omega
      | false =>
        have HN := Lib.hid (HA.out k x HX.out hq)
        clear hq
        go_wp2
        go_ret
        exact ⟨by rw [HN.out]; rfl, HB1.out⟩
    · obtain rfl : k = ts.length := by omega
      have HN := Lib.hid (HE.out.symm.trans HK.out)
      go_wp2
      go_ret
      exact ⟨by rw [HN.out]; rfl, HB.out⟩
set_option maxHeartbeats 800000 in
theorem allTexts (V : Value) (ts : List (List Int)) (w : World) (h : GridV w w.heap.size ts V) : Calls Tryd.prog 40 #[V, .func (.func 41) #[] #[]] w (Says (ts.all okX) w) := by
  obtain ⟨A, c, rfl, h1, h2, h3⟩ := h
  have HL := Lib.hid h3
  have HA : Hid (∀ k x, ts[k]? = some x → okX x = false → ts.all okX = false) := fun k x hx h => all_not hx h
  have HT : Hid (∀ k x, ts[k]? = some x → (ts.take k).all okX = true → (ts.take (k + 1)).all okX = okX x) := fun k x hx h => all_take hx h
  have HE : Hid ((ts.take ts.length).all okX = ts.all okX) := Lib.hid (by rw [List.take_length])
  clear h3
  unfold maxLen at h2
  generalize ts.all okX = r at *
  go_enter Tryd.func40, Tryd.ntmps40
  go_wp2
  go_loopw [9] (fun i wr => ∃ k : Nat, k ≤ ts.length ∧ i = .int .i64 k ∧ (ts.take k).all okX = true ∧ Below w.heap.size w wr) (fun i _ => ts.length - (intOf i).toNat)
  case atStart => exact ⟨0, Nat.zero_le _, rfl, rfl, Below.refl _ _⟩
  case round =>
    obtain ⟨k, hk, rfl, ha, hb⟩ := hrel
    have HB := Lib.hid hb
    have HK := Lib.hid ha
    clear hb ha
    by_cases hkl : k < ts.length
    · obtain ⟨x, hx⟩ : ∃ x, ts[k]? = some x := ⟨_, List.getElem?_eq_getElem hkl⟩
      obtain ⟨ad, A', c', rfl, hB, hc0, g1, g2, _⟩ := HL.out.2 k _ hx
      have hc : wr.cell? (ad.add k) = some (.slice A' x.length c') := by rw [HB.out.cell (by rw [addr_block]; exact hB)]; exact hc0
      have HX := Lib.hid hx
      clear hx hc0
      go_wp2_with fail
      refine (okText A' x.length c' _ (by omega) (okX x) rfl).mono ?_
      rintro e w1 ⟨rfl, hb1⟩
      have HB1 : Hid (Below w.heap.size w w1) := Lib.hid (HB.out.trans (hb1.mono HB.out.size))
      clear hb1
      cases hq : okX x with
      | true =>
        have HN := Lib.hid ((HT.out k x HX.out HK.out).trans hq)
        clear hq
        go_wp2
        go_roundw
        case rel => exact ⟨k + 1, by omega, by go_num, HN.out, HB1.out⟩
        case measure => simp [intOf]; omega
      | false =>
        have HN := Lib.hid (HA.out k x HX.out hq)
        clear hq
        go_wp2
        go_ret
        exact ⟨by rw [HN.out]; rfl, HB1.out⟩
    · obtain rfl : k = ts.length := by omega
      have HN := Lib.hid (HE.out.symm.trans HK.out)
      go_wp2
      go_ret
      exact ⟨by rw [HN.out]; rfl, HB.out⟩
set_option maxHeartbeats 800000 in
theorem allInstrs (V : Value) (ts : List (Int × Int)) (w : World) (h : RowL w w.heap.size ts.length (insV ts) V) : Calls Tryd.prog 69 #[V, .func (.func 70) #[] #[]] w (Says (ts.all okI) w) := by
  obtain ⟨A, c, rfl, h1, h2, h3⟩ := h
  have HL := Lib.hid h3
  have HA : Hid (∀ k x, ts[k]? = some x → okI x = false → ts.all okI = false) := fun k x hx h => all_not hx h
  have HT : Hid (∀ k x, ts[k]? = some x → (ts.take k).all okI = true → (ts.take (k + 1)).all okI = okI x) := fun k x hx h => all_take hx h
  have HE : Hid ((ts.take ts.length).all okI = ts.all okI) := Lib.hid (by rw [List.take_length])
  clear h3
  unfold maxLen at h2
  generalize ts.all okI = r at *
  go_enter Tryd.func69, Tryd.ntmps69
  go_wp2
  go_loopw [9] (fun i wr => ∃ k : Nat, k ≤ ts.length ∧ i = .int .i64 k ∧ (ts.take k).all okI = true ∧ Below w.heap.size w wr) (fun i _ => ts.length - (intOf i).toNat)
  case atStart => exact ⟨0, Nat.zero_le _, rfl, rfl, Below.refl _ _⟩
  case round =>
    obtain ⟨k, hk, rfl, ha, hb⟩ := hrel
    have HB := Lib.hid hb
    have HK := Lib.hid ha
    clear hb ha
    by_cases hkl : k < ts.length
    · obtain ⟨x, hx⟩ : ∃ x, ts[k]? = some x := ⟨_, List.getElem?_eq_getElem hkl⟩
      have hx2 := insV_at hx
      obtain ⟨b, o, rfl, hB, hcc⟩ := lies_flat HL.out hx2.1
      have HR := Lib.hid (range2 (w := wr) (b := b) (o := o + k * 2) (by rw [HB.out.cell hB]; exact hcc _ _ hx2.1) (by rw [Nat.add_assoc, HB.out.cell hB]; exact hcc _ _ hx2.2))
      clear hx2
      have HX := Lib.hid hx
      clear hx hcc
      go_wp2_with (first | (refine wpList_load_mid rfl 50 (.tmp 11) rfl b (o + k * 2) rfl [.int .i64 x.1, .int .i64 x.2] _ HR.out Tryd.underlying50 rfl info50s ?_; refine Hid.out ?_) | fail)
      refine Lib.hid ?_
      go_wp2_with fail
      refine (okInstr x _).mono ?_
      rintro e w1 ⟨rfl, hb1⟩
      have HB1 : Hid (Below w.heap.size w w1) := Lib.hid ((HB.out.alloc HB.out.size _).trans (hb1.mono (by simp; have := HB.out.size; omega)))
      clear hb1
      cases hq : okI x with
      | true =>
        have HN := Lib.hid ((HT.out k x HX.out HK.out).trans hq)
        clear hq
        go_wp2
        go_roundw
        case rel => exact ⟨k + 1, by omega, by go_num, HN.out, HB1.out⟩
        case measure => simp [intOf]; omega
      | false =>
        have HN := Lib.hid (HA.out k x HX.out hq)
        clear hq
        go_wp2
        go_ret
        exact ⟨by rw [HN.out]; rfl, HB1.out⟩
    · obtain rfl : k = ts.length := by omega
      have HN := Lib.hid (HE.out.symm.trans HK.out)
      go_wp2
      go_ret
      exact ⟨by rw [HN.out]; rfl, HB.out⟩

end Go.Proofs.YtecjkmemihmkcaaDoor
