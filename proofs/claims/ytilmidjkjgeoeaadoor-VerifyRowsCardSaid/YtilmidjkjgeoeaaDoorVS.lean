/- A state reaches a place: what the place has then, and whether this changes something. Conditions: those in each theorem. -/
import Derived.Test.YtilmidjkjgeoeaaDoorVR
namespace Go.Proofs.YtilmidjkjgeoeaaDoor
open Go.RowKit Go.MapKept
set_option maxRecDepth 100000
set_option linter.unusedVariables false
set_option linter.unusedSimpArgs false
theorem eq65 (a0 a1 a2 a3 a4 a5 a6 a7 b0 b1 b2 b3 b4 b5 b6 b7 : Int) (w : World) : (Op.equalIn 10000 65 (.agg #[.int .u64 a0, .int .u64 a1, .int .u64 a2, .int .u64 a3, .int .u64 a4, .int .u64 a5, .int .u64 a6, .int .u64 a7]) (.agg #[.int .u64 b0, .int .u64 b1, .int .u64 b2, .int .u64 b3, .int .u64 b4, .int .u64 b5, .int .u64 b6, .int .u64 b7])).run Tryd.prog w = .ok (decide (a0 = b0 ∧ a1 = b1 ∧ a2 = b2 ∧ a3 = b3 ∧ a4 = b4 ∧ a5 = b5 ∧ a6 = b6 ∧ a7 = b7)) w := by
  have u3 := Tryd.underlying63
  have a3' := Tryd.isAgg63
  have z3 := Tryd.sizeOf63
  rw [show (10000 : Nat) = 9999 + 1 from rfl, Op.equalIn]
  simp only [Sem.run_bind, run_underlying Tryd.underlying65, Result.andThen_ok]
  simp only [Std.Legacy.Range.forIn_eq_forIn_range', Std.Legacy.Range.size, Nat.sub_zero, Nat.add_sub_cancel, Nat.div_one, List.range'_succ, List.range'_zero, List.forIn_cons, List.forIn_nil]
  go_simp
  by_cases h0 : a0 = b0 <;> simp [h0]
  by_cases h1 : a1 = b1 <;> simp [h1]
  by_cases h2 : a2 = b2 <;> simp [h2]
  by_cases h3 : a3 = b3 <;> simp [h3]
  by_cases h4 : a4 = b4 <;> simp [h4]
  by_cases h5 : a5 = b5 <;> simp [h5]
  by_cases h6 : a6 = b6 <;> simp [h6]
  by_cases h7 : a7 = b7 <;> simp [h7]
theorem len8 {xs : List Nat} (h : Ws8 xs) : ∃ a b c d e f g i, xs = [a, b, c, d, e, f, g, i] := by
  match xs, h.1 with
  | [a, b, c, d, e, f, g, i], _ => exact ⟨a, b, c, d, e, f, g, i, rfl⟩
/-- a row's element -/
theorem pl_flat {l : List Pl} (h8 : ∀ p ∈ l, p.2.2.length = 8) : ∀ {k : Nat} {p : Pl} {j : Nat} {u : Value}, l[k]? = some p → (plC p)[j]? = some u → (l.flatMap plC)[k * 10 + j]? = some u := by
  induction l with
  | nil => intro k p j u h; simp at h
  | cons q l ih =>
    intro k p j u h hu
    have hq : (plC q).length = 10 := by simp [plC, wsV, h8 q (by simp)]
    cases k with
    | zero =>
      simp at h
      subst h
      have := (List.getElem?_eq_some_iff.1 hu).1
      rw [List.flatMap_cons, List.getElem?_append_left (by omega)]
      simpa using hu
    | succ k =>
      rw [List.flatMap_cons, List.getElem?_append_right (by rw [hq]; omega), hq]
      rw [show (k + 1) * 10 + j - 10 = k * 10 + j by omega]
      exact ih (fun p hp => h8 p (by simp [hp])) (by simpa using h) hu
theorem pl_len {l : List Pl} (h8 : ∀ p ∈ l, p.2.2.length = 8) : (l.flatMap plC).length = l.length * 10 := by
  induction l with
  | nil => rfl
  | cons q l ih =>
    have hq : (plC q).length = 10 := by simp [plC, wsV, h8 q (by simp)]
    rw [List.flatMap_cons, List.length_append, hq, ih (fun p hp => h8 p (by simp [hp])), List.length_cons]
    omega
theorem pl_at {l : List Pl} (h8 : ∀ p ∈ l, p.2.2.length = 8) {j : Nat} {p : Pl} {u : Value} (h : l[j / 10]? = some p) (hu : (plC p)[j % 10]? = some u) : (l.flatMap plC)[j]? = some u := by
  have := pl_flat h8 h hu
  rwa [show j / 10 * 10 + j % 10 = j by omega] at this
theorem pl_set {l : List Pl} (h8 : ∀ p ∈ l, p.2.2.length = 8) {k : Nat} {p q : Pl} (h : l[k]? = some p) (hq : q.2.2.length = 8) : (l.set k q).flatMap plC = putAt (l.flatMap plC) (k * 10) (plC q) := by
  have hk := (List.getElem?_eq_some_iff.1 h).1
  have hql : (plC q).length = 10 := by simp [plC, wsV, hq]
  have h8' : ∀ x ∈ l.set k q, x.2.2.length = 8 := fun x hx => (List.mem_or_eq_of_mem_set hx).elim (h8 x) (fun e => by rw [e]; exact hq)
  have hl := pl_len h8
  have hl' := pl_len h8'
  apply List.ext_getElem?
  intro j
  rw [putAt_get (by rw [hql, hl]; omega), hql]
  by_cases hj : j < l.length * 10
  · have hd : j / 10 < l.length := by omega
    have hm : j % 10 < 10 := Nat.mod_lt _ (by omega)
    have hjj : j = j / 10 * 10 + j % 10 := by omega
    by_cases hjk : j / 10 = k
    · rw [if_neg (by omega), if_pos (by omega)]
      have e1 : (plC q)[j % 10]? = some (plC q)[j % 10] := List.getElem?_eq_getElem (by omega)
      rw [show j - k * 10 = j % 10 by omega, e1]
      exact pl_at h8' (by rw [hjk, List.getElem?_set_self (by omega)]) e1
    · obtain ⟨r, hr⟩ : ∃ r, l[j / 10]? = some r := ⟨l[j / 10], List.getElem?_eq_getElem hd⟩
      have hrl : (plC r).length = 10 := by simp [plC, wsV, h8 r (List.mem_of_getElem? hr)]
      have e1 : (plC r)[j % 10]? = some (plC r)[j % 10] := List.getElem?_eq_getElem (by omega)
      have e2 : (l.flatMap plC)[j]? = some (plC r)[j % 10] := pl_at h8 hr e1
      have e3 : ((l.set k q).flatMap plC)[j]? = some (plC r)[j % 10] := pl_at h8' (by rw [List.getElem?_set_ne (by omega)]; exact hr) e1
      rw [e3, e2]
      split
      · rfl
      · rw [if_neg (by omega)]
  · rw [List.getElem?_eq_none (by rw [hl']; simp; omega), if_neg (by omega), if_neg (by omega), List.getElem?_eq_none (by omega)]
/-- what a state that reaches a place changes -/
def reachM (l : List Pl) (a : Int) (n : Nat) (ys : List Nat) : List Pl × Bool × Bool :=
  if 0 ≤ a ∧ a < l.length then
    (match l[a.toNat]? with
    | none => (l, false, false)
    | some p => if p.1 = false then (l.set a.toNat (true, n, ys), true, true) else if p.2.1 ≠ n then (l, false, false) else if List.zipWith dgC p.2.2 ys = p.2.2 then (l, false, true) else (l.set a.toNat (true, n, List.zipWith dgC p.2.2 ys), true, true))
  else (l, false, false)
def ts71 : TypeId → Prop := fun T => T = 71
/-- all as it was but the places -/
def ReachQ (B W : Nat) (x : Wx) (L V R : Value) (m : List Pl × Bool × Bool) (w : World) (r : Ending) (w' : World) : Prop :=
  r = .returned (.tuple #[.bool m.2.1, .bool m.2.2]) ∧ WkAt B W { x with pl := m.1 } L V R w' ∧ Mt B ts71 w w'
/-- the places' row with another element -/
theorem WkAt.placed {B W : Nat} {x : Wx} {L V R : Value} {w w' : World} {g c : Nat} {A : List Value} {l' : List Pl} (h : WkAt B W x L V R w) (hV : V = .slice (some ⟨g, 0, none⟩) x.pl.length c) (hB : B ≤ g) (hg : w.heap[g]? = some (.cells A.toArray 71 (0, 0))) (hc : x.pl.length ≤ c ∧ c ≤ maxLen) (ho : One g w w') {A' : List Value} (hA' : w'.heap[g]? = some (.cells A'.toArray 71 (0, 0))) (hl : A'.length = c * 10) (ht : A'.take (x.pl.length * 10) = l'.flatMap plC) (hll : l'.length = x.pl.length) (hfl : (l'.flatMap plC).length = l'.length * 10) :
    WkAt B W { x with pl := l' } L V R w' ∧ Mt B ts71 w w' := by
  have far : ∀ (b : Nat) (cs : Array Value) (T : TypeId), w.heap[b]? = some (.cells cs T (0, 0)) → T ≠ 71 → w'.heap[b]? = some (.cells cs T (0, 0)) := fun b cs T hc hT => by
    rw [ho.far b fun e => by subst e; exact hT (one_tag hc hg)]
    exact hc
  have hm : w'.heap[x.m]? = w.heap[x.m]? := ho.far _ fun e => by
    have := h.map
    rw [e] at this
    exact map_no this hg
  refine ⟨⟨far _ _ 61 h.cell (by decide), own_same h.list fun q cs _ hq => far q cs 81 hq (by decide), h.map.of hm, ?_, own_same h.rem fun q cs _ hq => far q cs 2 hq (by decide), h.hW, h.hm, h.h0⟩, Mt.grown ho.grown h.lt.2 fun q hq => ?_⟩
  · show w'.ownsRow B 71 10 V l'.length (l'.flatMap plC)
    rw [hll]
    exact ⟨by rw [hfl, hll], .inr ⟨g, c, A'.toArray, hV, hB, hA', hc.1, hc.2, by simpa using hl, by simpa using ht⟩⟩
  · injection hq with hq
    subst hq
    exact ⟨hB, fun cs T z hc => one_tag hc hg⟩
end Go.Proofs.YtilmidjkjgeoeaaDoor
