/- A module that is handed in as an argument lies in memory. Conditions: those in each theorem. -/
import Derived.Test.YtilmidjkjgeoeaaDoorBase
import Derived.Deep.Slices
namespace Go.Proofs.YtilmidjkjgeoeaaDoor
open Go.ChangeShapes Go.WideShapes Go.ChangeAt Go.RowKit
set_option maxRecDepth 100000
set_option linter.unusedSimpArgs false
set_option linter.unusedVariables false

theorem xcells46 : Tryd.prog.cellsOf 30 = 5 := by kernel_rfl
theorem xcells50 : Tryd.prog.cellsOf 35 = 2 := by kernel_rfl
theorem xcells43 : Tryd.prog.cellsOf 27 = 1 := by kernel_rfl
theorem xcells48 : Tryd.prog.cellsOf 33 = 1 := by kernel_rfl
theorem xcells42 : Tryd.prog.cellsOf 26 = 1 := by kernel_rfl
theorem xcells44 : Tryd.prog.cellsOf 28 = 1 := by kernel_rfl
theorem xcells22 : Tryd.prog.cellsOf 22 = 1 := by kernel_rfl
theorem xcells23 : Tryd.prog.cellsOf 23 = 1 := by kernel_rfl
theorem xcells25 : Tryd.prog.cellsOf 25 = 2 := by kernel_rfl
theorem xcells26 : Tryd.prog.cellsOf 46 = 1 := by kernel_rfl
theorem xcells2 : Tryd.prog.cellsOf 2 = 1 := by kernel_rfl
theorem xcells3 : Tryd.prog.cellsOf 3 = 1 := by kernel_rfl

theorem some_at {α : Type} {l : List α} {n i : Nat} (h : l.length = n) (hi : i < n) : ∃ a, l[i]? = some a := ⟨_, List.getElem?_eq_getElem (by omega)⟩
theorem list2 {cs : List Value} (h : cs.length = 2) : ∃ a b, cs = [a, b] := by
  match cs, h with
  | [a, b], _ => exact ⟨a, b, rfl⟩
theorem list5 {cs : List Value} (h : cs.length = 5) : ∃ a b c d e, cs = [a, b, c, d, e] := by
  match cs, h with
  | [a, b, c, d, e], _ => exact ⟨a, b, c, d, e, rfl⟩
/-- a list of what is there at each place -/
theorem list_of {α : Type} : ∀ (n : Nat) (p : Nat → α → Prop), (∀ i, i < n → ∃ a, p i a) → ∃ l : List α, l.length = n ∧ ∀ i a, l[i]? = some a → p i a
  | 0, _, _ => ⟨[], rfl, fun i a h => by simp at h⟩
  | n + 1, p, h => by
    obtain ⟨a, ha⟩ := h 0 (by omega)
    obtain ⟨l, h1, h2⟩ := list_of n (fun i => p (i + 1)) fun i hi => h (i + 1) (by omega)
    refine ⟨a :: l, by simp [h1], fun i x hx => ?_⟩
    cases i with
    | zero =>
      simp at hx
      subst hx
      exact ha
    | succ i => exact h2 i x (by simpa using hx)
section
variable {H : Type} {enc : TypeId × Value → H} {w : World} {sp : Nat → Bool} {hd : Bool}
/-- a slice's elements, each with its cells -/
theorem open_row {t e m fuel : Nat} {cs : List Value} {x : DataW H × List MemPlace} (ht : Tryd.prog.underlying t = some (.slice e)) (hm : Tryd.prog.cellsOf e = m) (hpos : 0 < m) (h : DataW.trod enc Tryd.prog w 0 sp hd fuel t cs = some x) :
    cs = [.slice none 0 0] ∨ ∃ (a : Addr) (len cap n : Nat), cs = [.slice (some a) len cap] ∧ len ≤ cap ∧ cap ≤ maxLen ∧ ∀ i, i < len → ∃ (cs' : List Value) (y : DataW H × List MemPlace), cs'.length = m ∧ DataW.trod enc Tryd.prog w 0 sp hd n e cs' = some y ∧
      ∀ r, r < m → a.block < w.heap.size ∧ ∃ v, cs'[r]? = some v ∧ w.cell? (a.add (i * m + r)) = some v := by
  subst hm
  rcases DataW.trod_slice ht h with ⟨h0, _⟩ | ⟨a, len, cap, elems, rest, n, hf, hcs, hx, _, hl, hc, hlen, hel, _, _⟩
  · exact .inl h0
  · refine .inr ⟨a, len, cap, n, hcs, hl, hc, fun i hi => ?_⟩
    have h1 := hel i hi
    have h2 : elems[i]? = some (elems[i]'(by omega)) := List.getElem?_eq_getElem (by omega)
    rw [h2] at h1
    cases hcc : w.cells? 0 (a.add (i * Tryd.prog.cellsOf e)) (Tryd.prog.cellsOf e) with
    | none => rw [hcc] at h1; cases h1
    | some cs' =>
      rw [hcc] at h1
      obtain ⟨_, g2, g3⟩ := World.cells?_some hcc
      refine ⟨cs', _, g2, h1, fun r hr => ?_⟩
      have g4 := g3 r hr
      have g5 : cs'[r]? = some (cs'[r]'(by omega)) := List.getElem?_eq_getElem (by omega)
      rw [g5, Go.Deep.add_add] at g4
      exact ⟨by have := World.block_lt_of_cell? w _ g4; rwa [addr_block] at this, _, g5, g4⟩
theorem read_i64 {t n : Nat} {v : Value} {y : DataW H × List MemPlace} (ht : Tryd.prog.underlying t = some (.int .i64)) (h : DataW.trod enc Tryd.prog w 0 sp hd n t [v] = some y) : ∃ k, v = .int .i64 k ∧ Fit k := by
  obtain ⟨k, e, _, hw⟩ := DataW.trod_int ht h
  simp at e
  exact ⟨k, e, bounds_i64 hw⟩
theorem read_str {n : Nat} {v : Value} {y : DataW H × List MemPlace} (h : DataW.trod enc Tryd.prog w 0 sp hd n 9 [v] = some y) : ∃ s, v = .string (strOfNums s) ∧ Byt s := by
  obtain ⟨s, e, _, _⟩ := DataW.trod_string Tryd.underlying9 h
  simp at e
  obtain ⟨l, h1, rfl⟩ := strO_of s
  exact ⟨l, e, h1⟩
theorem open_types {n : Nat} {v : Value} {y : DataW H × List MemPlace} (h : DataW.trod enc Tryd.prog w 0 sp hd n 26 [v] = some y) : ∃ ts : List Int, RowL w w.heap.size ts.length (tysV ts) v ∧ ∀ t ∈ ts, Fit t := by
  rcases open_row Tryd.underlying26 xcells43 (by omega) h with e | ⟨a, len, cap, n', e, hl, hc, hel⟩
  · simp at e
    subst e
    exact ⟨[], RowL.nothing _ _, fun t ht => by cases ht⟩
  · simp at e
    subst e
    obtain ⟨ts, h1, h2⟩ := list_of len (fun i (k : Int) => Fit k ∧ a.block < w.heap.size ∧ w.cell? (a.add i) = some (.int .i64 k)) (by
      intro i hi
      obtain ⟨cs', y', g1, g2, g3⟩ := hel i hi
      obtain ⟨g4, v, g5, g6⟩ := g3 0 (by omega)
      match cs', g1 with
      | [u], _ =>
        simp at g5
        subst g5
        obtain ⟨k, rfl, hk⟩ := read_i64 Tryd.underlying27 g2
        exact ⟨k, hk, g4, by simpa using g6⟩)
    subst h1
    refine ⟨ts, ⟨some a, cap, rfl, hl, hc, (fun e => by cases e), fun j u hu => ?_⟩, fun t ht => ?_⟩
    · obtain ⟨t, ht⟩ : ∃ t, ts[j]? = some t := ⟨_, List.getElem?_eq_getElem (by have := (List.getElem?_eq_some_iff.1 hu).1; rwa [tysV_len] at this)⟩
      rw [tysV_at ht] at hu
      injection hu with hu
      subst hu
      exact ⟨a, rfl, (h2 j t ht).2.1, (h2 j t ht).2.2⟩
    · obtain ⟨j, hj⟩ := List.getElem?_of_mem ht
      exact (h2 j t hj).1
theorem insV_split : ∀ {is : List (Int × Int)} {j : Nat} {u : Value}, (insV is)[j]? = some u → ∃ i, is[j / 2]? = some i ∧ ([Value.int .i64 i.1, .int .i64 i.2])[j % 2]? = some u
  | [], j, u, h => by simp [insV] at h
  | x :: is, 0, u, h => ⟨x, rfl, by simpa [insV] using h⟩
  | x :: is, 1, u, h => ⟨x, rfl, by simpa [insV] using h⟩
  | x :: is, j + 2, u, h => by
    have h' : (insV is)[j]? = some u := by simpa [insV] using h
    obtain ⟨i, h1, h2⟩ := insV_split h'
    exact ⟨i, by rw [show (j + 2) / 2 = j / 2 + 1 by omega]; simpa using h1, by rw [show (j + 2) % 2 = j % 2 by omega]; exact h2⟩
theorem open_instrs {n : Nat} {v : Value} {y : DataW H × List MemPlace} (h : DataW.trod enc Tryd.prog w 0 sp hd n 28 [v] = some y) : ∃ is : List (Int × Int), RowL w w.heap.size is.length (insV is) v ∧ ∀ i ∈ is, Fit i.1 ∧ Fit i.2 := by
  rcases open_row Tryd.underlying28 xcells50 (by omega) h with e | ⟨a, len, cap, n', e, hl, hc, hel⟩
  · simp at e
    subst e
    exact ⟨[], RowL.nothing _ _, fun t ht => by cases ht⟩
  · simp at e
    subst e
    obtain ⟨is, h1, h2⟩ := list_of len (fun i (k : Int × Int) => (Fit k.1 ∧ Fit k.2) ∧ a.block < w.heap.size ∧ w.cell? (a.add (i * 2)) = some (.int .i64 k.1) ∧ w.cell? (a.add (i * 2 + 1)) = some (.int .i64 k.2)) (by
      intro i hi
      obtain ⟨cs', y', g1, g2, g3⟩ := hel i hi
      obtain ⟨c0, c1, rfl⟩ := list2 g1
      obtain ⟨ys, n'', hn', hyx, _, hys, hfs⟩ := DataW.trod_struct Tryd.underlying35 g2
      obtain ⟨y0, e0⟩ := some_at hys (i := 0) (by decide)
      obtain ⟨y1, e1⟩ := some_at hys (i := 1) (by decide)
      have f0 := hfs 0 _ rfl
      have f1 := hfs 1 _ rfl
      simp [xcells48, xcells2, e0, e1] at f0 f1
      obtain ⟨k0, rfl, hk0⟩ := read_i64 Tryd.underlying33 f0
      obtain ⟨k1, rfl, hk1⟩ := read_i64 Tryd.underlying2 f1
      obtain ⟨g4, v0, g5, g6⟩ := g3 0 (by omega)
      obtain ⟨_, v1, g7, g8⟩ := g3 1 (by omega)
      simp at g5 g7
      subst g5 g7
      exact ⟨(k0, k1), ⟨hk0, hk1⟩, g4, by simpa using g6, g8⟩)
    subst h1
    refine ⟨is, ⟨some a, cap, rfl, hl, hc, (fun e => by cases e), fun j u hu => ?_⟩, fun t ht => ?_⟩
    · obtain ⟨i, hi, hu2⟩ := insV_split hu
      obtain ⟨_, q1, q2, q3⟩ := h2 _ _ hi
      refine ⟨a, rfl, q1, ?_⟩
      rcases (show j % 2 = 0 ∨ j % 2 = 1 by omega) with hm | hm
      · rw [hm] at hu2
        simp at hu2
        subst hu2
        rw [show j = j / 2 * 2 by omega]
        exact q2
      · rw [hm] at hu2
        simp at hu2
        subst hu2
        rw [show j = j / 2 * 2 + 1 by omega]
        exact q3
    · obtain ⟨j, hj⟩ := List.getElem?_of_mem ht
      exact (h2 j t hj).1
/-- cells of codes, each with its rows -/
theorem cosC_of {F G : Nat → List Value → Value → Prop} : ∀ {l : List Cd} {ps : List (Value × Value)}, ps.length = l.length → (∀ (i : Nat) (c : Cd) (p : Value × Value), l[i]? = some c → ps[i]? = some p → F c.params.length (tysV c.params) p.1 ∧ G c.instrs.length (insV c.instrs) p.2) →
    CosC F G l ((List.zipWith (fun c (p : Value × Value) => coC c p.1 p.2) l ps).flatten)
  | [], _, _, _ => .nil
  | c :: l, [], h, _ => by simp at h
  | c :: l, p :: ps, h, hp => .cons (hp 0 c p rfl rfl).1 (hp 0 c p rfl rfl).2 (cosC_of (by simpa using h) fun i c' p' h1 h2 => hp (i + 1) c' p' (by simpa using h1) (by simpa using h2))
theorem coC_split : ∀ {l : List Cd} {ps : List (Value × Value)} {j : Nat} {u : Value}, ps.length = l.length → ((List.zipWith (fun c (p : Value × Value) => coC c p.1 p.2) l ps).flatten)[j]? = some u → ∃ c p, l[j / 5]? = some c ∧ ps[j / 5]? = some p ∧ (coC c p.1 p.2)[j % 5]? = some u
  | [], _, j, u, _, h => by simp at h
  | c :: l, [], j, u, h, _ => by simp at h
  | c :: l, p :: ps, j, u, hl, h => by
    rw [List.zipWith_cons_cons, List.flatten_cons] at h
    by_cases hj : j < 5
    · rw [List.getElem?_append_left (by simpa [coC] using hj)] at h
      refine ⟨c, p, ?_, ?_, ?_⟩
      · rw [show j / 5 = 0 by omega]; rfl
      · rw [show j / 5 = 0 by omega]; rfl
      · rw [show j % 5 = j by omega]; exact h
    · rw [List.getElem?_append_right (by simp [coC]; omega)] at h
      obtain ⟨c', p', h1, h2, h3⟩ := coC_split (l := l) (ps := ps) (j := j - 5) (by simpa using hl) (by simpa [coC] using h)
      refine ⟨c', p', ?_, ?_, ?_⟩
      · rw [show j / 5 = (j - 5) / 5 + 1 by omega]; simpa using h1
      · rw [show j / 5 = (j - 5) / 5 + 1 by omega]; simpa using h2
      · rw [show j % 5 = (j - 5) % 5 by omega]; exact h3
theorem open_codes {n : Nat} {v : Value} {y : DataW H × List MemPlace} (h : DataW.trod enc Tryd.prog w 0 sp hd n 22 [v] = some y) : ∃ cs : List Cd, CodesV w w.heap.size cs v ∧ ∀ c ∈ cs, CdFit c := by
  rcases open_row Tryd.underlying22 xcells46 (by omega) h with e | ⟨a, len, cap, n', e, hl, hc, hel⟩
  · simp at e
    subst e
    exact ⟨[], CodesV.nothing _ _, fun t ht => by cases ht⟩
  · simp at e
    subst e
    obtain ⟨xs, h1, h2⟩ := list_of len (fun i (x : Cd × (Value × Value)) => CdFit x.1 ∧ RowL w w.heap.size x.1.params.length (tysV x.1.params) x.2.1 ∧ RowL w w.heap.size x.1.instrs.length (insV x.1.instrs) x.2.2 ∧ a.block < w.heap.size ∧ ∀ r u, (coC x.1 x.2.1 x.2.2)[r]? = some u → w.cell? (a.add (i * 5 + r)) = some u) (by
      intro i hi
      obtain ⟨cs', y', g1, g2, g3⟩ := hel i hi
      obtain ⟨c0, c1, c2, c3, c4, rfl⟩ := list5 g1
      obtain ⟨ys, n'', hn', hyx, _, hys, hfs⟩ := DataW.trod_struct Tryd.underlying30 g2
      obtain ⟨y0, e0⟩ := some_at hys (i := 0) (by decide)
      obtain ⟨y1, e1⟩ := some_at hys (i := 1) (by decide)
      obtain ⟨y2, e2⟩ := some_at hys (i := 2) (by decide)
      obtain ⟨y3, e3⟩ := some_at hys (i := 3) (by decide)
      obtain ⟨y4, e4⟩ := some_at hys (i := 4) (by decide)
      have f0 := hfs 0 _ rfl
      have f1 := hfs 1 _ rfl
      have f2 := hfs 2 _ rfl
      have f3 := hfs 3 _ rfl
      have f4 := hfs 4 _ rfl
      simp [cells9, xcells42, xcells43, xcells3, xcells44, e0, e1, e2, e3, e4] at f0 f1 f2 f3 f4
      obtain ⟨s, rfl, hs⟩ := read_str f0
      obtain ⟨ts, hts, hft⟩ := open_types f1
      obtain ⟨k2, rfl, hk2⟩ := read_i64 Tryd.underlying27 f2
      obtain ⟨k3, rfl, hk3⟩ := read_i64 Tryd.underlying3 f3
      obtain ⟨is, his, hfi⟩ := open_instrs f4
      refine ⟨(⟨s, ts, k2, k3, is⟩, (c1, c4)), ⟨hs, hft, hk2, hk3, hfi⟩, hts, his, (g3 0 (by omega)).1, fun r u hu => ?_⟩
      have hr : r < 5 := by
        have := (List.getElem?_eq_some_iff.1 hu).1
        simpa [coC] using this
      obtain ⟨_, v, g5, g6⟩ := g3 r hr
      rw [g6]
      exact g5.symm.trans hu)
    subst h1
    have hz : xs.map (·.1) = xs.map Prod.fst := rfl
    refine ⟨xs.map (·.1), ⟨some a, cap, (List.zipWith (fun c (p : Value × Value) => coC c p.1 p.2) (xs.map (·.1)) (xs.map (·.2))).flatten, by simp, by simpa using hl, hc, ⟨(fun e => by cases e), fun j u hu => ?_⟩, cosC_of (by simp) fun i c p h3 h4 => ?_⟩, fun c hcc => ?_⟩
    · obtain ⟨c, p, k1, k2, k3⟩ := coC_split (by simp) hu
      rw [List.getElem?_map] at k1 k2
      cases hx : xs[j / 5]? with
      | none => rw [hx] at k1; cases k1
      | some x =>
        rw [hx] at k1 k2
        simp at k1 k2
        subst k1 k2
        obtain ⟨_, _, _, q4, q5⟩ := h2 _ _ hx
        refine ⟨a, rfl, q4, ?_⟩
        have := q5 _ _ k3
        rwa [show j / 5 * 5 + j % 5 = j by omega] at this
    · rw [List.getElem?_map] at h3 h4
      cases hx : xs[i]? with
      | none => rw [hx] at h3; cases h3
      | some x =>
        rw [hx] at h3 h4
        simp at h3 h4
        subst h3 h4
        exact ⟨(h2 _ _ hx).2.1, (h2 _ _ hx).2.2.1⟩
    · obtain ⟨x, hx, rfl⟩ := List.mem_map.1 hcc
      obtain ⟨j, hj⟩ := List.getElem?_of_mem hx
      exact (h2 j x hj).1
end
section
variable {H : Type} {enc : TypeId × Value → H} {w : World} {hd : Bool}
theorem view_mod {r : Reach} {b0 : Nat} {v : Value} {d : DataW H} {ps : List MemPlace} (hv : Value.okWide Tryd.prog w r b0 25 v) (h : DataW.Trod enc Tryd.prog w 0 (fun _ => true) hd 25 v d ps) : ∃ m : Md, ModV w w.heap.size m v ∧ MdFit m := by
  obtain ⟨cs, rfl, hsz⟩ := okWide_struct Tryd.underlying25 hv
  obtain ⟨l⟩ := cs
  obtain ⟨V0, V1, rfl⟩ := list2 (cs := l) (by have := hsz.trans xcells25; simpa using this)
  obtain ⟨fuel, hf⟩ := h
  obtain ⟨ys, n', hn', hyx, _, hys, hfs⟩ := DataW.trod_struct Tryd.underlying25 hf
  obtain ⟨y0, e0⟩ := some_at hys (i := 0) (by decide)
  obtain ⟨y1, e1⟩ := some_at hys (i := 1) (by decide)
  have f0 := hfs 0 _ rfl
  have f1 := hfs 1 _ rfl
  simp [xcells22, xcells23, e0, e1, Value.cells] at f0 f1
  obtain ⟨cs, hcs, hfit⟩ := open_codes f0
  obtain ⟨A, len, cap, rfl⟩ : ∃ A len cap, V1 = .slice A len cap := by
    rcases DataW.trod_slice Tryd.underlying23 f1 with ⟨h0, _⟩ | ⟨a, len, cap, elems, rest, n, hf, hcs, _⟩
    · simp at h0; exact ⟨_, _, _, h0⟩
    · simp at hcs; exact ⟨_, _, _, hcs⟩
  obtain ⟨ls, q1, q2, q3, q4, q5⟩ := view_rows Tryd.underlying23 Tryd.underlying46 Tryd.underlying5 xcells26 cells5 (w := w) (a := A) (len := len) (cap := cap) ⟨n', by simpa [Value.cells] using f1⟩
  subst q1
  exact ⟨⟨cs, ls⟩, ⟨_, _, rfl, hcs, A, cap, rfl, q2, q3, q5⟩, hfit, q4⟩
end
end Go.Proofs.YtilmidjkjgeoeaaDoor
