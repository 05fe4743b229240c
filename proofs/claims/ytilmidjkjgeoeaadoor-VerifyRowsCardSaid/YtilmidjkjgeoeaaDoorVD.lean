/- Laws: a struct stored within a block, told whole; a struct in a result's block; an element of an array. Conditions: those in each theorem. -/
import Derived.Test.YtilmidjkjgeoeaaDoorVB
import Derived.Deep.MidRow
import Derived.Maps.AppendAt
namespace Go.Proofs.YtilmidjkjgeoeaaDoor
open Go.RowKit
set_option maxRecDepth 100000
set_option linter.unusedVariables false
set_option linter.unusedSimpArgs false
/-- a list with another piece in it -/
def putAt {α : Type} (A : List α) (o : Nat) (cs : List α) : List α := A.take o ++ cs ++ A.drop (o + cs.length)
theorem putAt_len {α : Type} {A : List α} {o : Nat} {cs : List α} (h : o + cs.length ≤ A.length) : (putAt A o cs).length = A.length := by
  unfold putAt
  simp
  omega
theorem putAt_get {α : Type} {A : List α} {o : Nat} {cs : List α} (h : o + cs.length ≤ A.length) (j : Nat) : (putAt A o cs)[j]? = if j < o then A[j]? else if j < o + cs.length then cs[j - o]? else A[j]? := by
  unfold putAt
  by_cases h1 : j < o
  · rw [if_pos h1, List.append_assoc, List.getElem?_append_left (by simp; omega), List.getElem?_take_of_lt h1]
  · rw [if_neg h1, List.append_assoc, List.getElem?_append_right (by simp; omega)]
    have e : (A.take o).length = o := by simp; omega
    rw [e]
    by_cases h2 : j < o + cs.length
    · rw [if_pos h2, List.getElem?_append_left (by omega)]
    · rw [if_neg h2, List.getElem?_append_right (by omega), List.getElem?_drop]
      congr 1
      omega
/-- the worlds but for one block -/
structure One (g : Nat) (w w' : World) : Prop where
  os : w'.os = w.os
  tape : w'.tape = w.tape
  output : w'.output = w.output
  size : w'.heap.size = w.heap.size
  far : ∀ k, k ≠ g → w'.heap[k]? = w.heap[k]?
theorem One.refl (g : Nat) (w : World) : One g w w := ⟨rfl, rfl, rfl, rfl, fun _ _ => rfl⟩
theorem One.trans {g : Nat} {a b c : World} (h : One g a b) (k : One g b c) : One g a c := ⟨k.os.trans h.os, k.tape.trans h.tape, k.output.trans h.output, k.size.trans h.size, fun i hi => (k.far i hi).trans (h.far i hi)⟩
theorem One.below {g B : Nat} {w w' : World} (h : One g w w') (hB : B ≤ g) : Below B w w' := ⟨h.os, h.tape, h.output, by rw [h.size]; exact Nat.le_refl _, fun k hk => h.far k (by omega)⟩
theorem One.grown {g : Nat} {w w' : World} (h : One g w w') : w.grownBy w' (some g) := ⟨h.os, h.tape, h.output, by rw [h.size]; exact Nat.le_refl _, fun k hk hne => h.far k (fun e => hne (by rw [e]))⟩
theorem One.set (w : World) (g o : Nat) (v : Value) : One g w (w.setCell ⟨g, o, none⟩ v) := ⟨rfl, rfl, rfl, by simp [World.setCell], fun k hk => Below.heap_setCell _ _ _ _ hk⟩
theorem One.drew {g : Nat} {w w' : World} (h : One g w w') : One g w w'.drew := ⟨h.os, h.tape, h.output, h.size, h.far⟩
theorem setCells_at (g T : Nat) : ∀ (cs : List Value) (o : Nat) (A : List Value) (w : World), w.heap[g]? = some (.cells A.toArray T (0, 0)) → o + cs.length ≤ A.length →
    (w.setCells g o cs).heap[g]? = some (.cells (putAt A o cs).toArray T (0, 0)) ∧ One g w (w.setCells g o cs)
  | [], o, A, w, h, hl => ⟨by show w.heap[g]? = _; simpa [putAt] using h, One.refl _ _⟩
  | c :: cs, o, A, w, h, hl => by
    have h1 := heap_setCell_same w g o _ T c h
    rw [List.setIfInBounds_toArray] at h1
    have h2 := setCells_at g T cs (o + 1) (A.set o c) (w.setCell ⟨g, o, none⟩ c) h1 (by simp at hl ⊢; omega)
    refine ⟨?_, (One.set w g o c).trans h2.2⟩
    have e : putAt (A.set o c) (o + 1) cs = putAt A o (c :: cs) := by
      have hlA : o < A.length := by simp at hl; omega
      apply List.ext_getElem?
      intro j
      rw [putAt_get (by simp at hl ⊢; omega), putAt_get hl]
      simp only [List.length_cons]
      by_cases j1 : j < o
      · rw [if_pos (by omega), if_pos j1, List.getElem?_set_ne (by omega)]
      · by_cases j2 : j = o
        · subst j2
          rw [if_pos (by omega), if_neg j1, if_pos (by omega), List.getElem?_set_self hlA]
          simp
        · rw [if_neg (by omega), if_neg j1]
          by_cases j3 : j < o + 1 + cs.length
          · rw [if_pos j3, if_pos (by omega), show j - o = (j - (o + 1)) + 1 by omega, List.getElem?_cons_succ]
          · rw [if_neg j3, if_neg (by omega), List.getElem?_set_ne (by omega)]
    rw [← e]
    exact h2.1
/-- a struct is stored within a block -/
theorem wpList_storeW {P : Program} {ops : Array Oper} {rest : List Oper} {op : Oper} {a : Act} {w : World} {Q : Exit → Act → World → Prop} {T Tg n : Nat} (hi : (P.info? T).map (·.size) = some n) (hgd : op.guard = none) (x y : Operand) (ho : op.op = .store T x y) (hd : op.dst = none)
    (g o : Nat) (hx : a.eval x = .pointer (some ⟨g, o, none⟩)) (cs A : List Value) (hl : cs.length = n) (hy : a.eval y = .agg cs.toArray) (ht : w.heap[g]? = some (.cells A.toArray Tg (0, 0))) (hA : o + n ≤ A.length) (h1 : ∀ u ∈ cs, u.oneCell' = true)
    (h : ∀ w', w'.heap[g]? = some (.cells (putAt A o cs).toArray Tg (0, 0)) → One g w w' → wpList P ops Q rest a w') : wpList P ops Q (op :: rest) a w := by
  subst hl
  have hth : w.there g o cs.length := by
    intro j hj
    constructor
    · rw [cell_of_row _ _ _ _ _ _ ht]
      simp
      omega
    · simp [World.frozen?, ht]
  refine wpList_store_mid hgd T x y ho g o cs.toArray hx hy (by simpa using hth) (by simpa using hi) (by simpa using h1) ?_
  rw [hd]
  obtain ⟨h2, h3⟩ := setCells_at g Tg cs o A w ht hA
  exact h (w.setCells g o cs) h2 h3
/-- the same within a region that draws its order -/
theorem stepR_storeW {P : Program} {op : Oper} {a : Act} {w : World} {K : Act → World → Prop} {Q : Exit → Act → World → Prop} {T Tg n : Nat} (hi : (P.info? T).map (·.size) = some n) (x y : Operand) (ho : op.op = .store T x y)
    (g o : Nat) (hx : a.eval x = .pointer (some ⟨g, o, none⟩)) (cs A : List Value) (hl : cs.length = n) (hy : a.eval y = .agg cs.toArray) (ht : w.heap[g]? = some (.cells A.toArray Tg (0, 0))) (hA : o + n ≤ A.length) (h1 : ∀ u ∈ cs, u.oneCell' = true)
    (h : ∀ w', w'.heap[g]? = some (.cells (putAt A o cs).toArray Tg (0, 0)) → One g w w' → K (a.put op.dst undef) w') : op.wp P a w K Q := by
  subst hl
  have hth : w.there g o cs.length := by
    intro j hj
    constructor
    · rw [cell_of_row _ _ _ _ _ _ ht]
      simp
      omega
    · simp [World.frozen?, ht]
  refine wp_store_mid T x y ho g o cs.toArray hx hy (by simpa using hth) (by simpa using hi) (by simpa using h1) ?_
  obtain ⟨h2, h3⟩ := setCells_at g Tg cs o A w ht hA
  exact h (w.setCells g o cs) h2 h3
theorem putAt_all {α : Type} {A cs : List α} (h : A.length = cs.length) : putAt A 0 cs = cs := by
  unfold putAt
  rw [List.take_zero, List.nil_append, Nat.zero_add, ← h, List.drop_length, List.append_nil]
/-- a struct in a variable of its own is stored anew -/
theorem wpList_storeA {P : Program} {ops : Array Oper} {rest : List Oper} {op : Oper} {a : Act} {w : World} {Q : Exit → Act → World → Prop} {T Tg n : Nat} (hi : (P.info? T).map (·.size) = some n) (hgd : op.guard = none) (x y : Operand) (ho : op.op = .store T x y) (hd : op.dst = none)
    (g : Nat) (hx : a.eval x = .pointer (some ⟨g, 0, none⟩)) (cs A : List Value) (hl : cs.length = n) (hy : a.eval y = .agg cs.toArray) (ht : w.heap[g]? = some (.cells A.toArray Tg (0, 0))) (hA : A.length = n) (h1 : ∀ u ∈ cs, u.oneCell' = true)
    (h : ∀ w', w'.heap[g]? = some (.cells cs.toArray Tg (0, 0)) → One g w w' → wpList P ops Q rest a w') : wpList P ops Q (op :: rest) a w := by
  refine wpList_storeW hi hgd x y ho hd g 0 hx cs A hl hy ht (by omega) h1 ?_
  intro w' h2 h3
  rw [putAt_all (by omega)] at h2
  exact h w' h2 h3
theorem rangeV_of {w : World} {g : Nat} {cs : List Value} {T : TypeId} (h : w.heap[g]? = some (.cells cs.toArray T (0, 0))) : w.rangeAt g 0 cs := by
  intro j v hv
  rw [cell_of_row _ _ _ _ _ _ h]
  simpa using hv
/-- a struct in the block where a function's result lies -/
theorem retV_cell {P : Program} {fn : Func} {s T : Nat} {d : TypeDesc} {cs : List Value} (h : fn.results = #[.cell s T]) (hu : P.underlying T = some d) (hd : d.isRow = true) (hi : (P.info? T).map (·.size) = some cs.length) (tmps : Array Value) (w : World) (g : Nat) (hp : tmps.getD s undef = .pointer (some ⟨g, 0, none⟩)) (hr : w.rangeAt g 0 cs) :
    (results fn tmps).run P w = .ok (.agg cs.toArray) w := by
  have hp' : tmps[s]?.getD undef = .pointer (some ⟨g, 0, none⟩) := by simpa using hp
  have h1 := run_loadVar_mid (P := P) w g 0 T cs _ hr hu hd hi
  simp [results, h, hp', asAddr, h1]
/-- an array's element -/
theorem run_indexV (w : World) {t e : TypeId} {n k : Nat} {cs : List Value} {v : Value} (h : Tryd.prog.underlying t = some (.array n e)) (hi : (Tryd.prog.info? e).map (·.size) = some 1) (hg : (isAgg e).run Tryd.prog w = .ok false w)
    (hk : k < n) (hv : cs[k]? = some v) : (Instr.index t (.agg cs.toArray) (.int .i64 k)).run Tryd.prog w = .ok v w := by
  cases hq : Tryd.prog.info? e with
  | none => simp [hq] at hi
  | some i =>
    have hs : i.size = 1 := by simpa [hq] using hi
    simp [Instr.index, run_underlying h, sizeOf, typeInfo, hq, hs, part, hg, hk, hv, asIntOf]
/-- things appended to a row of the call's own, within a region that draws its order -/
theorem stepR_append {P : Program} (w : World) {ops : Array Oper} {o : Oper} {a : Act} {K : Act → World → Prop} {Q : Exit → Act → World → Prop} {E : Prop} (hgd : o.guard = none) (s x : Operand) (t : TypeId)
    (ho : o.op = .call { callee := .builtin .append, args := #[s, x], argTypes := #[t, t] })
    (base : Nat) (e : TypeId) (i : TypeInfo) (z : Value) (size bytes : Nat) (ht : P.underlying t = some (.slice e)) (hi : P.info? e = some i) (hz : i.zero = some z)
    (hsize : i.size = size) (hby : i.bytes = bytes) (hzs : z.cells.size = size) (hsz : 0 < size)
    (v : Value) (n : Nat) (xs : List Value) (hs : a.eval s = v) (hown : w.ownsRow base e size v n xs)
    (ad : Addr) (m c : Nat) (news : List Value) (hx : a.eval x = .slice (some ad) m c) (hl : news.length = m * size) (hnews : ∀ j u, news[j]? = some u → w.cell? (ad.add j) = some u) (h1 : ∀ u ∈ news, u.oneCell' = true)
    (h63 : n + m ≤ maxLen) (hbytes : (n + m) * bytes ≤ 140737488355328) (hbase : base ≤ w.heap.size)
    (h : ∀ v' w', w'.ownsRow base e size v' (n + m) (xs ++ news) → w.grownBy w' v.ownBlock → (v'.ownBlock = v.ownBlock ∨ v'.ownBlock = some w.heap.size) → K (a.put o.dst v') w') : if Region.wanted o (yielded ops a.tmps) = true then Oper.wp P o a w K Q else E := by
  have hw : Region.wanted o (yielded ops a.tmps) = true := by simp [Region.wanted, hgd]
  rw [if_pos hw]
  obtain ⟨v', w', hr, h2, h3, _, h4⟩ := run_append_own_at (P := P) (w := w) base t o.type e i z size bytes ht hi hz hsize hby hzs hsz v n xs hown ad m c news hl hnews h1 h63 hbytes hbase
  unfold Oper.wp execOp
  simp only [ho, resolve, invoke, builtin, Sem.run_bind, Sem.run_pure, Result.andThen_ok, List.map_toArray, List.map_cons, List.map_nil, hs, hx, hr]
  exact h v' w' h2 h3 h4
/-- the same outside of such a region -/
theorem wpListR_append {P : Program} {ops : Array Oper} {rest : List Oper} {o : Oper} {a : Act} {w : World} {Q : Exit → Act → World → Prop} (hgd : o.guard = none) (s x : Operand) (t : TypeId)
    (ho : o.op = .call { callee := .builtin .append, args := #[s, x], argTypes := #[t, t] })
    (base : Nat) (e : TypeId) (i : TypeInfo) (z : Value) (size bytes : Nat) (ht : P.underlying t = some (.slice e)) (hi : P.info? e = some i) (hz : i.zero = some z)
    (hsize : i.size = size) (hby : i.bytes = bytes) (hzs : z.cells.size = size) (hsz : 0 < size)
    (v : Value) (n : Nat) (xs : List Value) (hs : a.eval s = v) (hown : w.ownsRow base e size v n xs)
    (ad : Addr) (m c : Nat) (news : List Value) (hx : a.eval x = .slice (some ad) m c) (hl : news.length = m * size) (hnews : ∀ j u, news[j]? = some u → w.cell? (ad.add j) = some u) (h1 : ∀ u ∈ news, u.oneCell' = true)
    (h63 : n + m ≤ maxLen) (hbytes : (n + m) * bytes ≤ 140737488355328) (hbase : base ≤ w.heap.size)
    (h : ∀ v' w', w'.ownsRow base e size v' (n + m) (xs ++ news) → w.grownBy w' v.ownBlock → (v'.ownBlock = v.ownBlock ∨ v'.ownBlock = some w.heap.size) → wpList P ops Q rest (a.put o.dst v') w') : wpList P ops Q (o :: rest) a w := by
  refine wpList_plain hgd fun _ hK => ?_
  obtain ⟨v', w', hr, h2, h3, _, h4⟩ := run_append_own_at (P := P) (w := w) base t o.type e i z size bytes ht hi hz hsize hby hzs hsz v n xs hown ad m c news hl hnews h1 h63 hbytes hbase
  unfold Oper.wp execOp
  simp only [ho, resolve, invoke, builtin, Sem.run_bind, Sem.run_pure, Result.andThen_ok, List.map_toArray, List.map_cons, List.map_nil, hs, hx, hr]
  exact hK _ _ (h v' w' h2 h3 h4)
theorem infoV {P : Program} {t : TypeId} {z : Value} {s b : Nat} (h : (P.info? t).map (fun i => (i.zero, i.size, i.bytes)) = some (some z, s, b)) : ∃ i, P.info? t = some i ∧ i.zero = some z ∧ i.size = s ∧ i.bytes = b := by
  cases hq : P.info? t with
  | none => rw [hq] at h; cases h
  | some i =>
    rw [hq] at h
    simp at h
    exact ⟨i, rfl, h.1, h.2.1, h.2.2⟩
end Go.Proofs.YtilmidjkjgeoeaaDoor
