/- When a module is safe: states of stacks and slots, the search for them; some modules that are. Conditions: those in each theorem. -/
namespace Go.Proofs.YtilmidjkjgeoeaaDoor
set_option maxRecDepth 100000
set_option linter.unusedVariables false
set_option linter.unusedSimpArgs false
set_option linter.unusedSectionVars false
/-- an instruction: its op, its number -/
abbrev Ins := Int × Int
/-- a function's code, a module -/
structure Kc where
  name : List Nat
  params : List Int
  result : Int
  slots : Nat
  ins : List Ins
/-- the types on a stack (the top at the end), and in slots (0: not known) -/
structure Sv where
  st : List Int
  sl : List Int
def madeV (n a b : Int) : Int :=
  if n = 1 then (if a = 1 ∧ b = 1 then 1 else if a = 3 ∧ b = 3 then 3 else 0)
  else if 2 ≤ n ∧ n ≤ 5 then (if a = 1 ∧ b = 1 then 1 else 0)
  else if 6 ≤ n ∧ n ≤ 9 then (if a = 1 ∧ b = 1 then 2 else 0)
  else if n = 10 ∨ n = 11 then (if a = b ∧ 1 ≤ a ∧ a ≤ 3 then 2 else 0)
  else 0
def popV (s : Sv) (want : List Int) : Option Sv :=
  if want.length ≤ s.st.length ∧ s.st.drop (s.st.length - want.length) = want then some ⟨s.st.take (s.st.length - want.length), s.sl⟩ else none
def pushV (s : Sv) (t : Int) : Sv := ⟨s.st ++ [t], s.sl⟩
/-- the functions' parameters and results; how many texts; what this one returns -/
structure Pv where
  fs : List (List Int × Int)
  nt : Nat
  res : Int
def stepV (P : Pv) (i : Ins) (s : Sv) : Option Sv :=
  if i.1 = 1 then (if 0 ≤ i.2 ∧ i.2 ≤ 100000 then some s else none)
  else if i.1 = 2 then some (pushV s 1)
  else if i.1 = 3 then (if i.2 = 0 ∨ i.2 = 1 then some (pushV s 2) else none)
  else if i.1 = 4 then (if 0 ≤ i.2 ∧ i.2 < P.nt then some (pushV s 3) else none)
  else if i.1 = 5 then (if 0 ≤ i.2 then (match s.sl[i.2.toNat]? with | some t => if t = 0 then none else some (pushV s t) | none => none) else none)
  else if i.1 = 6 then (if 0 ≤ i.2 ∧ i.2 < s.sl.length ∧ s.st ≠ [] then some ⟨s.st.dropLast, s.sl.set i.2.toNat (s.st.getLast?.getD 0)⟩ else none)
  else if i.1 = 7 then (if 2 ≤ s.st.length ∧ madeV i.2 (s.st[s.st.length - 2]?.getD 0) (s.st[s.st.length - 1]?.getD 0) ≠ 0 then some ⟨s.st.take (s.st.length - 2) ++ [madeV i.2 (s.st[s.st.length - 2]?.getD 0) (s.st[s.st.length - 1]?.getD 0)], s.sl⟩ else none)
  else if i.1 = 8 then (if i.2 = 2 then (popV s [1]).map (pushV · 1) else if i.2 = 12 then (popV s [2]).map (pushV · 2) else none)
  else if i.1 = 9 then (popV s [3]).map (pushV · 3)
  else if i.1 = 10 then (popV s [3]).map (pushV · 2)
  else if i.1 = 11 then (popV s [3]).map (pushV · 1)
  else if i.1 = 12 then popV s [3, 3]
  else if i.1 = 13 then popV s [3]
  else if i.1 = 14 then (if 0 ≤ i.2 then (match P.fs[i.2.toNat]? with | some d => (popV s d.1).map (fun u => if d.2 = 0 then u else pushV u d.2) | none => none) else none)
  else if i.1 = 15 then some s
  else if i.1 = 16 then popV s [2]
  else if i.1 = 17 then (if s.st ≠ [] then some ⟨s.st.dropLast, s.sl⟩ else none)
  else if i.1 = 18 then (if s.st = (if P.res = 0 then [] else [P.res]) then some s else none)
  else none
/-- the same stack, and at least as much known of slots -/
structure FitV12 (s a : Sv) : Prop where
  st : s.st = a.st
  len : s.sl.length = a.sl.length
  sl : ∀ (j : Nat) (t : Int), a.sl[j]? = some t → t ≠ 0 → s.sl[j]? = some t
theorem FitV12.refl (s : Sv) : FitV12 s s := ⟨rfl, rfl, fun _ _ h _ => h⟩
theorem FitV12.trans {a b c : Sv} (h : FitV12 a b) (k : FitV12 b c) : FitV12 a c := ⟨h.st.trans k.st, h.len.trans k.len, fun j t e n => h.sl j t (k.sl j t e n) n⟩
theorem fit_pop {s a a' : Sv} {w : List Int} (h : FitV12 s a) (hp : popV a w = some a') : ∃ s', popV s w = some s' ∧ FitV12 s' a' := by
  unfold popV at hp ⊢
  rw [h.st]
  split at hp
  · rename_i hc
    injection hp with hp
    subst hp
    rw [if_pos hc]
    exact ⟨_, rfl, rfl, h.len, h.sl⟩
  · cases hp
theorem fit_push {s a : Sv} (h : FitV12 s a) (t : Int) : FitV12 (pushV s t) (pushV a t) := ⟨by show s.st ++ [t] = a.st ++ [t]; rw [h.st], h.len, h.sl⟩
theorem fit_map {s a a' : Sv} {w : List Int} {t : Int} (h : FitV12 s a) (hp : (popV a w).map (pushV · t) = some a') : ∃ s', (popV s w).map (pushV · t) = some s' ∧ FitV12 s' a' := by
  cases hq : popV a w with
  | none => rw [hq] at hp; cases hp
  | some b =>
    rw [hq] at hp
    injection hp with hp
    subst hp
    obtain ⟨s', h1, h2⟩ := fit_pop h hq
    exact ⟨pushV s' t, by rw [h1]; rfl, fit_push h2 t⟩
/-- what is known more of goes on as well -/
theorem fit_step {P : Pv} {i : Ins} {s a a' : Sv} (h : FitV12 s a) (hp : stepV P i a = some a') : ∃ s', stepV P i s = some s' ∧ FitV12 s' a' := by
  unfold stepV at hp ⊢
  by_cases h1 : i.1 = 1
  · rw [if_pos h1] at hp ⊢
    split at hp
    · rename_i hc; injection hp with hp; subst hp; rw [if_pos hc]; exact ⟨s, rfl, h⟩
    · cases hp
  rw [if_neg h1] at hp ⊢
  by_cases h2 : i.1 = 2
  · rw [if_pos h2] at hp ⊢
    injection hp with hp; subst hp; exact ⟨_, rfl, fit_push h 1⟩
  rw [if_neg h2] at hp ⊢
  by_cases h3 : i.1 = 3
  · rw [if_pos h3] at hp ⊢
    split at hp
    · rename_i hc; injection hp with hp; subst hp; rw [if_pos hc]; exact ⟨_, rfl, fit_push h 2⟩
    · cases hp
  rw [if_neg h3] at hp ⊢
  by_cases h4 : i.1 = 4
  · rw [if_pos h4] at hp ⊢
    split at hp
    · rename_i hc; injection hp with hp; subst hp; rw [if_pos hc]; exact ⟨_, rfl, fit_push h 3⟩
    · cases hp
  rw [if_neg h4] at hp ⊢
  by_cases h5 : i.1 = 5
  · rw [if_pos h5] at hp ⊢
    split at hp
    · rename_i hc
      rw [if_pos hc]
      split at hp
      · rename_i t ht
        split at hp
        · cases hp
        · rename_i ht0
          injection hp with hp; subst hp
          rw [h.sl _ t ht ht0]
          exact ⟨_, by dsimp only; rw [if_neg ht0], fit_push h t⟩
      · cases hp
    · cases hp
  rw [if_neg h5] at hp ⊢
  by_cases h6 : i.1 = 6
  · rw [if_pos h6] at hp ⊢
    split at hp
    · rename_i hc
      injection hp with hp; subst hp
      rw [if_pos (by rw [h.len, h.st]; exact hc)]
      refine ⟨_, rfl, by show s.st.dropLast = a.st.dropLast; rw [h.st], by simp [h.len], fun j t hj ht => ?_⟩
      dsimp only at hj ⊢
      rw [h.st]
      rw [List.getElem?_set] at hj ⊢
      split at hj
      · rename_i e
        rw [if_pos e, h.len]
        exact hj
      · rename_i e
        rw [if_neg e]
        exact h.sl j t hj ht
    · cases hp
  rw [if_neg h6] at hp ⊢
  by_cases h7 : i.1 = 7
  · rw [if_pos h7] at hp ⊢
    rw [h.st]
    split at hp
    · rename_i hc
      injection hp with hp; subst hp
      rw [if_pos hc]
      exact ⟨_, rfl, rfl, h.len, h.sl⟩
    · cases hp
  rw [if_neg h7] at hp ⊢
  by_cases h8 : i.1 = 8
  · rw [if_pos h8] at hp ⊢
    by_cases e2 : i.2 = 2
    · rw [if_pos e2] at hp ⊢; exact fit_map h hp
    · rw [if_neg e2] at hp ⊢
      by_cases e3 : i.2 = 12
      · rw [if_pos e3] at hp ⊢; exact fit_map h hp
      · rw [if_neg e3] at hp; cases hp
  rw [if_neg h8] at hp ⊢
  by_cases h9 : i.1 = 9
  · rw [if_pos h9] at hp ⊢; exact fit_map h hp
  rw [if_neg h9] at hp ⊢
  by_cases h10 : i.1 = 10
  · rw [if_pos h10] at hp ⊢; exact fit_map h hp
  rw [if_neg h10] at hp ⊢
  by_cases h11 : i.1 = 11
  · rw [if_pos h11] at hp ⊢; exact fit_map h hp
  rw [if_neg h11] at hp ⊢
  by_cases h12 : i.1 = 12
  · rw [if_pos h12] at hp ⊢; exact fit_pop h hp
  rw [if_neg h12] at hp ⊢
  by_cases h13 : i.1 = 13
  · rw [if_pos h13] at hp ⊢; exact fit_pop h hp
  rw [if_neg h13] at hp ⊢
  by_cases h14 : i.1 = 14
  · rw [if_pos h14] at hp ⊢
    split at hp
    · rename_i hc
      rw [if_pos hc]
      cases hd : P.fs[i.2.toNat]? with
      | none => rw [hd] at hp; cases hp
      | some d =>
        rw [hd] at hp
        dsimp only at hp ⊢
        cases hq : popV a d.1 with
        | none => rw [hq] at hp; cases hp
        | some b =>
          rw [hq] at hp
          injection hp with hp
          subst hp
          obtain ⟨s', g1, g2⟩ := fit_pop h hq
          rw [g1]
          refine ⟨_, rfl, ?_⟩
          dsimp only
          split
          · exact g2
          · exact fit_push g2 _
    · cases hp
  rw [if_neg h14] at hp ⊢
  by_cases h15 : i.1 = 15
  · rw [if_pos h15] at hp ⊢; injection hp with hp; subst hp; exact ⟨s, rfl, h⟩
  rw [if_neg h15] at hp ⊢
  by_cases h16 : i.1 = 16
  · rw [if_pos h16] at hp ⊢; exact fit_pop h hp
  rw [if_neg h16] at hp ⊢
  by_cases h17 : i.1 = 17
  · rw [if_pos h17] at hp ⊢
    rw [h.st]
    split at hp
    · rename_i hc; injection hp with hp; subst hp; rw [if_pos hc]; exact ⟨_, rfl, rfl, h.len, h.sl⟩
    · cases hp
  rw [if_neg h17] at hp ⊢
  by_cases h18 : i.1 = 18
  · rw [if_pos h18] at hp ⊢
    rw [h.st]
    generalize (if P.res = 0 then ([] : List Int) else [P.res]) = w at *
    split at hp
    · rename_i hc; injection hp with hp; subst hp; rw [if_pos hc]; exact ⟨s, rfl, h⟩
    · cases hp
  · rw [if_neg h18] at hp; cases hp
/-- two states at one place: what both know -/
def meetV (a b : Sv) : Sv := ⟨a.st, List.zipWith (fun x y => if x = y then x else 0) a.sl b.sl⟩
theorem fit_meet {s u a : Sv} (h : FitV12 s a) (k : FitV12 u a) : s.st = u.st ∧ FitV12 (meetV s u) a := by
  refine ⟨h.st.trans k.st.symm, h.st, by simp [meetV, h.len, k.len], fun j t hj ht => ?_⟩
  unfold meetV
  dsimp only
  rw [List.getElem?_zipWith, h.sl j t hj ht, k.sl j t hj ht]
  simp
/-- how a function begins -/
def initV (c : Kc) : Sv := ⟨[], c.params ++ List.replicate (c.slots - c.params.length) 0⟩
/-- where an instruction leads -/
def succZ (k : Nat) (i : Ins) : List Int := if i.1 = 18 then [] else if i.1 = 15 then [i.2] else if i.1 = 16 then [i.2, (k : Int) + 1] else [(k : Int) + 1]
abbrev Tv := Nat → Option Sv
/-- what a place has leads on to what is there -/
def ClosedV (P : Pv) (ins : List Ins) (T : Tv) (k : Nat) : Prop :=
  ∀ s, T k = some s → ∃ i, ins[k]? = some i ∧ ∃ s', stepV P i s = some s' ∧ s'.st.length ≤ 2100 ∧
    ∀ q ∈ succZ k i, 0 ≤ q ∧ q < ins.length ∧ ∃ t, T q.toNat = some t ∧ FitV12 s' t
structure AnnV (P : Pv) (ins : List Ins) (a : Sv) (T : Tv) : Prop where
  first : ∃ t, T 0 = some t ∧ FitV12 a t
  all : ∀ k, ClosedV P ins T k
def SafeV (P : Pv) (ins : List Ins) (a : Sv) : Prop := ∃ T, AnnV P ins a T
theorem SafeV.pos {P : Pv} {ins : List Ins} {a : Sv} (h : SafeV P ins a) : ins ≠ [] := by
  obtain ⟨T, ⟨t, h0, _⟩, h1⟩ := h
  obtain ⟨i, hi, _⟩ := h1 0 t h0
  intro e
  rw [e] at hi
  simp at hi
/-- an instruction leaves as many slots as there are -/
theorem popV_len {s s' : Sv} {w : List Int} (h : popV s w = some s') : s'.sl = s.sl := by
  unfold popV at h
  split at h
  · injection h with h; rw [← h]
  · cases h
theorem popMap_len {s s' : Sv} {w : List Int} {t : Int} (h : (popV s w).map (pushV · t) = some s') : s'.sl = s.sl := by
  cases hq : popV s w with
  | none => rw [hq] at h; cases h
  | some b => rw [hq] at h; injection h with h; rw [← h]; show b.sl = s.sl; exact popV_len hq
theorem stepV_len {P : Pv} {i : Ins} {s s' : Sv} (h : stepV P i s = some s') : s'.sl.length = s.sl.length := by
  unfold stepV at h
  by_cases h1 : i.1 = 1
  · rw [if_pos h1] at h
    split at h
    · injection h with h; rw [← h]
    · cases h
  rw [if_neg h1] at h
  by_cases h2 : i.1 = 2
  · rw [if_pos h2] at h
    injection h with h; rw [← h]; rfl
  rw [if_neg h2] at h
  by_cases h3 : i.1 = 3
  · rw [if_pos h3] at h
    split at h
    · injection h with h; rw [← h]; rfl
    · cases h
  rw [if_neg h3] at h
  by_cases h4 : i.1 = 4
  · rw [if_pos h4] at h
    split at h
    · injection h with h; rw [← h]; rfl
    · cases h
  rw [if_neg h4] at h
  by_cases h5 : i.1 = 5
  · rw [if_pos h5] at h
    split at h
    · split at h
      · split at h
        · cases h
        · injection h with h; rw [← h]; rfl
      · cases h
    · cases h
  rw [if_neg h5] at h
  by_cases h6 : i.1 = 6
  · rw [if_pos h6] at h
    split at h
    · injection h with h; rw [← h]; simp
    · cases h
  rw [if_neg h6] at h
  by_cases h7 : i.1 = 7
  · rw [if_pos h7] at h
    split at h
    · injection h with h; rw [← h]
    · cases h
  rw [if_neg h7] at h
  by_cases h8 : i.1 = 8
  · rw [if_pos h8] at h
    split at h
    · rw [popMap_len h]
    · split at h
      · rw [popMap_len h]
      · cases h
  rw [if_neg h8] at h
  by_cases h9 : i.1 = 9
  · rw [if_pos h9] at h
    rw [popMap_len h]
  rw [if_neg h9] at h
  by_cases h10 : i.1 = 10
  · rw [if_pos h10] at h
    rw [popMap_len h]
  rw [if_neg h10] at h
  by_cases h11 : i.1 = 11
  · rw [if_pos h11] at h
    rw [popMap_len h]
  rw [if_neg h11] at h
  by_cases h12 : i.1 = 12
  · rw [if_pos h12] at h
    rw [popV_len h]
  rw [if_neg h12] at h
  by_cases h13 : i.1 = 13
  · rw [if_pos h13] at h
    rw [popV_len h]
  rw [if_neg h13] at h
  by_cases h14 : i.1 = 14
  · rw [if_pos h14] at h
    split at h
    · split at h
      · rename_i d _
        cases hq : popV s d.1 with
        | none => rw [hq] at h; cases h
        | some b =>
          rw [hq] at h
          injection h with h
          rw [← h]
          change (if d.2 = 0 then b else pushV b d.2).sl.length = _
          by_cases h0 : d.2 = 0
          · rw [if_pos h0, popV_len hq]
          · rw [if_neg h0]
            show b.sl.length = _
            rw [popV_len hq]
      · cases h
    · cases h
  rw [if_neg h14] at h
  by_cases h15 : i.1 = 15
  · rw [if_pos h15] at h
    injection h with h; rw [← h]
  rw [if_neg h15] at h
  by_cases h16 : i.1 = 16
  · rw [if_pos h16] at h
    rw [popV_len h]
  rw [if_neg h16] at h
  by_cases h17 : i.1 = 17
  · rw [if_pos h17] at h
    split at h
    · injection h with h; rw [← h]
    · cases h
  rw [if_neg h17] at h
  by_cases h18 : i.1 = 18
  · rw [if_pos h18] at h
    generalize (if P.res = 0 then ([] : List Int) else [P.res]) = w at h
    split at h
    · injection h with h; rw [← h]
    · cases h
  rw [if_neg h18] at h
  cases h
theorem fit_meetL {b u : Sv} (hl : b.sl.length = u.sl.length) : FitV12 b (meetV b u) := by
  refine ⟨rfl, by simp [meetV, hl], fun j t hj ht => ?_⟩
  unfold meetV at hj
  dsimp only at hj
  rw [List.getElem?_zipWith] at hj
  cases h1 : b.sl[j]? with
  | none => rw [h1] at hj; simp at hj
  | some x =>
    cases h2 : u.sl[j]? with
    | none => rw [h1, h2] at hj; simp at hj
    | some y =>
      rw [h1, h2] at hj
      simp only [Option.some.injEq] at hj
      split at hj
      · rw [hj]
      · omega
theorem fit_meetR {b u : Sv} (hs : b.st = u.st) (hl : b.sl.length = u.sl.length) : FitV12 u (meetV b u) := by
  refine ⟨hs.symm, by simp [meetV, hl], fun j t hj ht => ?_⟩
  unfold meetV at hj
  dsimp only at hj
  rw [List.getElem?_zipWith] at hj
  cases h1 : b.sl[j]? with
  | none => rw [h1] at hj; simp at hj
  | some x =>
    cases h2 : u.sl[j]? with
    | none => rw [h1, h2] at hj; simp at hj
    | some y =>
      rw [h1, h2] at hj
      simp only [Option.some.injEq] at hj
      split at hj
      · rename_i e; rw [← e, hj]
      · omega
/-- the search: T what is there; W: which places are still to be looked at -/
structure WorkV (P : Pv) (ins : List Ins) (a : Sv) (T : Tv) (W : Nat → Prop) : Prop where
  first : ∃ t, T 0 = some t ∧ FitV12 a t
  len : ∀ k s, T k = some s → s.sl.length = a.sl.length
  all : ∀ k, ¬ W k → ClosedV P ins T k
  low : ∀ U, AnnV P ins a U → ∀ k s, T k = some s → ∃ t, U k = some t ∧ FitV12 s t
theorem WorkV.start (P : Pv) (ins : List Ins) (a : Sv) : WorkV P ins a (fun k => if k = 0 then some a else none) (· = 0) where
  first := ⟨a, rfl, .refl a⟩
  len k s h := by
    change (if k = 0 then some a else none) = some s at h
    split at h <;> simp at h
    rw [h]
  all k hk s h := by
    change (if k = 0 then some a else none) = some s at h
    rw [if_neg hk] at h; cases h
  low U hU k s h := by
    change (if k = 0 then some a else none) = some s at h
    split at h
    · rename_i e; subst e
      injection h with h; subst h
      exact hU.first
    · cases h
theorem WorkV.stop {P : Pv} {ins : List Ins} {a : Sv} {T : Tv} {W : Nat → Prop} (h : WorkV P ins a T W) (hw : ∀ k, ¬ W k) : SafeV P ins a := ⟨T, h.first, fun k => h.all k (hw k)⟩
/-- what any states for all places have of a place that the search looks at -/
theorem WorkV.ann {P : Pv} {ins : List Ins} {a : Sv} {T : Tv} {W : Nat → Prop} (h : WorkV P ins a T W) {U : Tv} (hU : AnnV P ins a U) {k : Nat} {s : Sv} {i : Ins} (hs : T k = some s) (hi : ins[k]? = some i) :
    ∃ s', stepV P i s = some s' ∧ s'.st.length ≤ 2100 ∧ ∀ q ∈ succZ k i, 0 ≤ q ∧ q < ins.length ∧ ∃ t, U q.toNat = some t ∧ FitV12 s' t := by
  obtain ⟨t, h1, h2⟩ := h.low U hU k s hs
  obtain ⟨i', hi', t', h3, h4, h5⟩ := hU.all k t h1
  rw [hi] at hi'
  injection hi' with hi'
  subst hi'
  obtain ⟨s', h6, h7⟩ := fit_step h2 h3
  refine ⟨s', h6, by rw [h7.st]; exact h4, fun q hq => ?_⟩
  obtain ⟨a1, a2, b, a3, a4⟩ := h5 q hq
  exact ⟨a1, a2, b, a3, h7.trans a4⟩
theorem WorkV.fall {P : Pv} {ins : List Ins} {a : Sv} {T : Tv} {W : Nat → Prop} (h : WorkV P ins a T W) {k : Nat} {s : Sv} {i : Ins} (hs : T k = some s) (hi : ins[k]? = some i)
    (hf : ∀ s', stepV P i s = some s' → s'.st.length ≤ 2100 → ∃ q ∈ succZ k i, ¬ (0 ≤ q ∧ q < ins.length) ∨ ∃ b, T q.toNat = some b ∧ b.st ≠ s'.st) : ¬ SafeV P ins a := by
  rintro ⟨U, hU⟩
  obtain ⟨s', h1, h2, h3⟩ := h.ann hU hs hi
  obtain ⟨q, hq, h4⟩ := hf s' h1 h2
  obtain ⟨a1, a2, t, a3, a4⟩ := h3 q hq
  rcases h4 with h4 | ⟨b, h4, h5⟩
  · exact h4 ⟨a1, a2⟩
  · obtain ⟨t', h6, h7⟩ := h.low U hU _ b h4
    rw [a3] at h6
    injection h6 with h6
    subst h6
    exact h5 (h7.st.trans a4.st.symm)
/-- what a place has when a state has come to it -/
def comeV (o : Option Sv) (s : Sv) : Sv := match o with | none => s | some b => meetV b s
def GrowV (T T' : Tv) : Prop := ∀ k s, T k = some s → ∃ t, T' k = some t ∧ FitV12 s t
theorem GrowV.refl (T : Tv) : GrowV T T := fun k s h => ⟨s, h, .refl s⟩
theorem GrowV.trans {A B C : Tv} (h : GrowV A B) (g : GrowV B C) : GrowV A C := fun k s hs => by
  obtain ⟨t, h1, h2⟩ := h k s hs
  obtain ⟨u, h3, h4⟩ := g k t h1
  exact ⟨u, h3, h2.trans h4⟩
def setV (T : Tv) (q : Nat) (s : Sv) : Tv := fun k => if k = q then some s else T k
/-- a state comes to a place: all is as it was, but that the place must be looked at where it changed -/
theorem WorkV.come {P : Pv} {ins : List Ins} {a : Sv} {T : Tv} {W W' : Nat → Prop} (h : WorkV P ins a T W) {k : Nat} {s s' : Sv} {i : Ins} (hs : T k = some s) (hi : ins[k]? = some i) (h1 : stepV P i s = some s')
    {q : Int} (hq : q ∈ succZ k i) (hq0 : 0 ≤ q ∧ q < ins.length) (hst : ∀ b, T q.toNat = some b → b.st = s'.st)
    (hW : ∀ j, W j → W' j) (hc : T q.toNat ≠ some (comeV (T q.toNat) s') → W' q.toNat) :
    WorkV P ins a (setV T q.toNat (comeV (T q.toNat) s')) W' ∧ GrowV T (setV T q.toNat (comeV (T q.toNat) s')) ∧ FitV12 s' (comeV (T q.toNat) s') := by
  have hsl : s'.sl.length = a.sl.length := (stepV_len h1).trans (h.len k s hs)
  have hfit : FitV12 s' (comeV (T q.toNat) s') := by
    cases hb : T q.toNat with
    | none => exact .refl s'
    | some b => exact fit_meetR (hst b hb) ((h.len _ b hb).trans hsl.symm)
  have hg : GrowV T (setV T q.toNat (comeV (T q.toNat) s')) := fun j u hu => by
    unfold setV
    by_cases hj : j = q.toNat
    · subst hj
      rw [if_pos rfl]
      refine ⟨_, rfl, ?_⟩
      rw [hu]
      exact fit_meetL ((h.len _ u hu).trans hsl.symm)
    · rw [if_neg hj]
      exact ⟨u, hu, .refl u⟩
  refine ⟨⟨?_, fun j u hu => ?_, fun j hj => ?_, fun U hU j u hu => ?_⟩, hg, hfit⟩
  · obtain ⟨t, h2, h3⟩ := h.first
    obtain ⟨u, h4, h5⟩ := hg 0 t h2
    exact ⟨u, h4, h3.trans h5⟩
  · unfold setV at hu
    split at hu
    · injection hu with hu
      rw [← hu, ← hfit.len]
      exact hsl
    · exact h.len j u hu
  · intro u hu
    have hold : T j = some u := by
      unfold setV at hu
      split at hu
      · rename_i e
        subst e
        injection hu with hu
        rw [← hu]
        exact Classical.byContradiction fun hn => hj (hc hn)
      · exact hu
    obtain ⟨i', a1, u', a2, a3, a4⟩ := h.all j (fun hw => hj (hW j hw)) u hold
    refine ⟨i', a1, u', a2, a3, fun p hp => ?_⟩
    obtain ⟨b1, b2, t, b3, b4⟩ := a4 p hp
    obtain ⟨t', b5, b6⟩ := hg _ t b3
    exact ⟨b1, b2, t', b5, b4.trans b6⟩
  · unfold setV at hu
    split at hu
    · rename_i e
      subst e
      injection hu with hu
      obtain ⟨v, c1, c2, c3⟩ := h.ann hU hs hi
      rw [h1] at c1
      injection c1 with c1
      subst c1
      obtain ⟨_, _, t, c4, c5⟩ := c3 q hq
      refine ⟨t, c4, ?_⟩
      rw [← hu]
      cases hb : T q.toNat with
      | none => exact c5
      | some b =>
        obtain ⟨t', c6, c7⟩ := h.low U hU _ b hb
        rw [c4] at c6
        injection c6 with c6
        subst c6
        exact (fit_meet c7 c5).2
    · exact h.low U hU j u hu
/-- a place that has been looked at -/
theorem WorkV.drop {P : Pv} {ins : List Ins} {a : Sv} {T : Tv} {W W' : Nat → Prop} (h : WorkV P ins a T W) {k : Nat} (hk : ClosedV P ins T k) (hW : ∀ j, W j → j = k ∨ W' j) : WorkV P ins a T W' where
  first := h.first
  len := h.len
  all j hj := by
    by_cases e : j = k
    · subst e; exact hk
    · exact h.all j fun hw => (hW j hw).elim e hj
  low := h.low
/-- how much is left to find out -/
def knownV (s : Sv) : Nat := s.sl.countP (· ≠ 0)
theorem meet_less : ∀ (x y : List Int), x.length = y.length → List.zipWith (fun a b => if a = b then a else 0) x y ≠ x → (List.zipWith (fun a b => if a = b then a else 0) x y).countP (· ≠ 0) < x.countP (· ≠ 0)
  | [], _, _, h => absurd (by simp) h
  | a :: x, [], hl, _ => by simp at hl
  | a :: x, b :: y, hl, h => by
    have hl' : x.length = y.length := by simpa using hl
    rw [List.zipWith_cons_cons] at h ⊢
    rw [List.countP_cons, List.countP_cons]
    have hle : (List.zipWith (fun a b => if a = b then a else 0) x y).countP (· ≠ 0) ≤ x.countP (· ≠ 0) := by
      by_cases e : List.zipWith (fun a b => if a = b then a else 0) x y = x
      · rw [e]; exact Nat.le_refl _
      · exact Nat.le_of_lt (meet_less x y hl' e)
    by_cases e : a = b
    · subst e
      simp only [if_true] at h ⊢
      have := meet_less x y hl' fun e => h (by rw [e])
      omega
    · rw [if_neg e] at h ⊢
      by_cases h0 : a = 0
      · subst h0
        have := meet_less x y hl' fun e => h (by rw [e])
        simpa using this
      · simp [h0]
        simp at hle
        omega
theorem meetV_less {b u : Sv} (hl : b.sl.length = u.sl.length) (h : meetV b u ≠ b) : knownV (meetV b u) < knownV b :=
  meet_less _ _ hl fun e => h (by unfold meetV; rw [e])
/-- only what its instructions do counts -/
theorem SafeV.congr {P Q : Pv} {ins : List Ins} {a : Sv} (h : ∀ i ∈ ins, ∀ s, stepV P i s = stepV Q i s) (k : SafeV P ins a) : SafeV Q ins a := by
  obtain ⟨T, h0, h1⟩ := k
  refine ⟨T, h0, fun k s hs => ?_⟩
  obtain ⟨i, hi, s', h2, h3⟩ := h1 k s hs
  exact ⟨i, hi, s', by rw [← h i (List.mem_of_getElem? hi)]; exact h2, h3⟩
/-- functions and texts that it does not name do not count -/
theorem stepV_beside {fs gs : List (List Int × Int)} {nt mt : Nat} {r : Int} {i : Ins} (hc : i.1 = 14 → 0 ≤ i.2 → fs[i.2.toNat]? = gs[i.2.toNat]?) (ht : i.1 = 4 → nt = mt) (s : Sv) : stepV ⟨fs, nt, r⟩ i s = stepV ⟨gs, mt, r⟩ i s := by
  unfold stepV
  dsimp only
  by_cases h14 : i.1 = 14
  · by_cases h0 : 0 ≤ i.2
    · simp [h14, hc h14 h0]
    · simp [h14, h0]
  · rw [if_neg (c := i.1 = 14) h14, if_neg (c := i.1 = 14) h14]
    by_cases h4 : i.1 = 4
    · rw [ht h4]
    · rw [if_neg (c := i.1 = 4) h4, if_neg (c := i.1 = 4) h4]
/-- each function of a module -/
def safeK (cs : List Kc) (nt : Nat) (c : Kc) : Prop := SafeV ⟨cs.map (fun c => (c.params, c.result)), nt, c.result⟩ c.ins (initV c)
/-- a function that calls nobody and has no texts, beside others -/
theorem safeK_one {cs ds : List Kc} {nt mt : Nat} {c : Kc} (h : ∀ i ∈ c.ins, i.1 ≠ 14 ∧ i.1 ≠ 4) : safeK cs nt c ↔ safeK ds mt c :=
  ⟨.congr fun i hi s => stepV_beside (fun e => absurd e (h i hi).1) (fun e => absurd e (h i hi).2) s, .congr fun i hi s => stepV_beside (fun e => absurd e (h i hi).1) (fun e => absurd e (h i hi).2) s⟩
/-- one more at the end, which nobody calls -/
theorem safeK_more {cs : List Kc} {nt : Nat} {c d : Kc} (h : ∀ i ∈ c.ins, i.1 = 14 → i.2 ≠ cs.length) : safeK (cs ++ [d]) nt c ↔ safeK cs nt c := by
  have key : ∀ i ∈ c.ins, i.1 = 14 → 0 ≤ i.2 → ((cs ++ [d]).map (fun c => (c.params, c.result)))[i.2.toNat]? = (cs.map (fun c => (c.params, c.result)))[i.2.toNat]? := fun i hi e h0 => by
    have hn := h i hi e
    rw [List.map_append]
    by_cases hl : i.2.toNat < cs.length
    · rw [List.getElem?_append_left (by simpa using hl)]
    · rw [List.getElem?_eq_none (by simp; omega), List.getElem?_eq_none (by simp; omega)]
  exact ⟨.congr fun i hi s => stepV_beside (key i hi) (fun _ => rfl) s, .congr fun i hi s => (stepV_beside (key i hi) (fun _ => rfl) s).symm⟩
/-- a module's functions, one by one -/
theorem safe_each {cs : List Kc} {nt : Nat} {d : Kc} (hd : ∀ i ∈ d.ins, i.1 ≠ 14 ∧ i.1 ≠ 4) (hc : ∀ c ∈ cs, ∀ i ∈ c.ins, i.1 = 14 → i.2 ≠ cs.length) :
    (∀ c ∈ cs ++ [d], safeK (cs ++ [d]) nt c) ↔ (∀ c ∈ [d], safeK [d] 0 c) ∧ ∀ c ∈ cs, safeK cs nt c := by
  constructor
  · intro h
    refine ⟨fun c e => ?_, fun c e => (safeK_more (hc c e)).1 (h c (by simp [e]))⟩
    rw [List.mem_singleton] at e
    subst e
    exact (safeK_one hd).1 (h c (by simp))
  · rintro ⟨h1, h2⟩ c e
    rcases List.mem_append.1 e with e | e
    · exact (safeK_more (hc c e)).2 (h2 c e)
    · rw [List.mem_singleton] at e
      subst e
      exact (safeK_one hd).2 (h1 c (by simp))
/-- what takes from an empty stack at the beginning -/
theorem not_drop {P : Pv} {l : List Ins} {a : Sv} {x : Int} (ha : a.st = []) : ¬ SafeV P ((17, x) :: l) a := by
  rintro ⟨T, ⟨t, h0, h1⟩, h2⟩
  obtain ⟨i, hi, s', h3, _⟩ := h2 0 t h0
  simp only [List.getElem?_cons_zero, Option.some.injEq] at hi
  subst hi
  rw [show stepV P (17, x) t = (if t.st ≠ [] then some ⟨t.st.dropLast, t.sl⟩ else none) from rfl, if_neg (by rw [← h1.st, ha]; simp)] at h3
  cases h3
theorem not_nil {P : Pv} {a : Sv} : ¬ SafeV P [] a := fun h => h.pos rfl
/-- a straight row of instructions -/
def rowV13 (P : Pv) : List Ins → Sv → Option Sv
  | [], s => some s
  | i :: l, s => match stepV P i s with
    | some s' => if s'.st.length ≤ 2100 then rowV13 P l s' else none
    | none => none
theorem rowV13_app {P : Pv} : ∀ (l m : List Ins) (s : Sv), rowV13 P (l ++ m) s = (rowV13 P l s).bind (rowV13 P m)
  | [], m, s => rfl
  | i :: l, m, s => by
    show rowV13 P (i :: (l ++ m)) s = _
    unfold rowV13
    cases stepV P i s with
    | none => rfl
    | some s' =>
      dsimp only
      split
      · exact rowV13_app l m s'
      · rfl
def Straight (i : Ins) : Prop := i.1 ≠ 15 ∧ i.1 ≠ 16 ∧ i.1 ≠ 18
theorem succZ_str {i : Ins} (h : Straight i) (k : Nat) : succZ k i = [(k : Int) + 1] := by
  unfold succZ
  rw [if_neg h.2.2, if_neg h.1, if_neg h.2.1]
theorem take_succ_at {l : List Ins} {k : Nat} {i : Ins} (h : l[k]? = some i) : l.take (k + 1) = l.take k ++ [i] := by
  rw [List.take_add_one, h]
  rfl
theorem rowV13_one {P : Pv} {i : Ins} {s s' : Sv} (h : stepV P i s = some s') (hl : s'.st.length ≤ 2100) : rowV13 P [i] s = some s' := by
  unfold rowV13
  rw [h]
  dsimp only
  rw [if_pos hl]
  rfl
theorem rowV13_one' {P : Pv} {i : Ins} {s s' : Sv} (h : rowV13 P [i] s = some s') : stepV P i s = some s' ∧ s'.st.length ≤ 2100 := by
  unfold rowV13 at h
  cases hs : stepV P i s with
  | none => rw [hs] at h; cases h
  | some u =>
    rw [hs] at h
    dsimp only at h
    split at h
    · rename_i hl
      unfold rowV13 at h
      injection h with h
      subst h
      exact ⟨rfl, hl⟩
    · cases h
/-- a straight row with a return at its end -/
theorem straight_safe {P : Pv} {l : List Ins} {r : Ins} {a : Sv} (hl : ∀ i ∈ l, Straight i) (hr : r.1 = 18) : SafeV P (l ++ [r]) a ↔ ∃ s s', rowV13 P l a = some s ∧ stepV P r s = some s' ∧ s'.st.length ≤ 2100 := by
  have hat : ∀ {k i}, l[k]? = some i → (l ++ [r])[k]? = some i := fun {k i} h => by
    rw [List.getElem?_append_left (List.getElem?_eq_some_iff.1 h).1]; exact h
  constructor
  · rintro ⟨T, h0, h1⟩
    have key : ∀ k, k ≤ l.length → ∃ t s, T k = some t ∧ rowV13 P (l.take k) a = some s ∧ FitV12 s t := by
      intro k
      induction k with
      | zero =>
        intro _
        obtain ⟨t, h2, h3⟩ := h0
        exact ⟨t, a, h2, rfl, h3⟩
      | succ k ih =>
        intro hk
        obtain ⟨t, s, h2, h3, h4⟩ := ih (by omega)
        have hi : l[k]? = some l[k] := List.getElem?_eq_getElem (by omega)
        obtain ⟨i, hi', t', h5, h6, h7⟩ := h1 k t h2
        rw [hat hi] at hi'
        injection hi' with hi'
        subst hi'
        obtain ⟨s', h8, h9⟩ := fit_step h4 h5
        have hq := h7 ((k : Int) + 1) (by rw [succZ_str (hl _ (List.getElem_mem _))]; simp)
        obtain ⟨_, _, u, h10, h11⟩ := hq
        rw [show ((k : Int) + 1).toNat = k + 1 from by omega] at h10
        refine ⟨u, s', h10, ?_, h9.trans h11⟩
        rw [take_succ_at hi, rowV13_app, h3]
        exact rowV13_one h8 (by rw [h9.st]; exact h6)
    obtain ⟨t, s, h2, h3, h4⟩ := key l.length (Nat.le_refl _)
    rw [List.take_length] at h3
    obtain ⟨i, hi', t', h5, h6, _⟩ := h1 l.length t h2
    rw [List.getElem?_append_right (Nat.le_refl _)] at hi'
    simp at hi'
    subst hi'
    obtain ⟨s', h8, h9⟩ := fit_step h4 h5
    exact ⟨s, s', h3, h8, by rw [h9.st]; exact h6⟩
  · rintro ⟨s, s', h1, h2, h3⟩
    have hpre : ∀ k, k ≤ l.length → ∃ u, rowV13 P (l.take k) a = some u := fun k hk => by
      rw [← List.take_append_drop k l, rowV13_app] at h1
      cases hu : rowV13 P (l.take k) a with
      | none => rw [hu] at h1; cases h1
      | some u => exact ⟨u, rfl⟩
    refine ⟨fun k => if k ≤ l.length then rowV13 P (l.take k) a else none, ⟨a, rfl, .refl a⟩, fun k t ht => ?_⟩
    change (if k ≤ l.length then rowV13 P (l.take k) a else none) = some t at ht
    split at ht
    · rename_i hk
      by_cases hke : k = l.length
      · subst hke
        rw [List.take_length, h1] at ht
        injection ht with ht
        subst ht
        refine ⟨r, by rw [List.getElem?_append_right (Nat.le_refl _)]; simp, s', h2, h3, fun q hq => ?_⟩
        unfold succZ at hq
        rw [if_pos hr] at hq
        cases hq
      · have hi : l[k]? = some l[k] := List.getElem?_eq_getElem (by omega)
        obtain ⟨u, hu⟩ := hpre (k + 1) (by omega)
        have hu' := hu
        rw [take_succ_at hi, rowV13_app, ht] at hu
        obtain ⟨h4, h5⟩ := rowV13_one' hu
        refine ⟨l[k], hat hi, u, h4, h5, fun q hq => ?_⟩
        rw [succZ_str (hl _ (List.getElem_mem _))] at hq
        rw [List.mem_singleton] at hq
        subst hq
        refine ⟨by omega, by simp; omega, u, ?_, .refl u⟩
        change (if ((k : Int) + 1).toNat ≤ l.length then rowV13 P (l.take ((k : Int) + 1).toNat) a else none) = some u
        rw [show ((k : Int) + 1).toNat = k + 1 from by omega, if_pos (by omega)]
        exact hu'
    · cases ht
theorem row_nums {P : Pv} : ∀ (n : Nat) (l : List Ins), l.length = n → (∀ i ∈ l, i.1 = 2) → ∀ (st sl : List Int), st.length + n ≤ 2100 → rowV13 P l ⟨st, sl⟩ = some ⟨st ++ List.replicate n 1, sl⟩
  | 0, [], _, _, st, sl, _ => by simp [rowV13]
  | n + 1, i :: l, hl, hi, st, sl, hn => by
    unfold rowV13
    have h2 : stepV P i ⟨st, sl⟩ = some ⟨st ++ [1], sl⟩ := by
      unfold stepV
      rw [if_neg (by rw [hi i (by simp)]; omega), if_pos (hi i (by simp))]
      rfl
    rw [h2]
    dsimp only
    rw [if_pos (by simp; omega), row_nums n l (by simpa using hl) (fun j hj => hi j (by simp [hj])) _ _ (by simp; omega)]
    simp [List.replicate_succ]
theorem row_drops {P : Pv} : ∀ (n : Nat) (st sl : List Int), st.length + n ≤ 2100 → rowV13 P (List.replicate n ((17, 0) : Ins)) ⟨st ++ List.replicate n 1, sl⟩ = some ⟨st, sl⟩
  | 0, st, sl, _ => by simp [rowV13]
  | n + 1, st, sl, hn => by
    rw [List.replicate_succ, List.replicate_succ', ← List.append_assoc]
    unfold rowV13
    have h2 : stepV P ((17, 0) : Ins) ⟨st ++ List.replicate n 1 ++ [1], sl⟩ = some ⟨st ++ List.replicate n 1, sl⟩ := by
      rw [show stepV P ((17, 0) : Ins) ⟨st ++ List.replicate n 1 ++ [1], sl⟩ = (if st ++ List.replicate n 1 ++ [1] ≠ [] then some ⟨(st ++ List.replicate n 1 ++ [1]).dropLast, sl⟩ else none) from rfl, if_pos (by simp), List.dropLast_concat]
    rw [h2]
    dsimp only
    rw [if_pos (by simp; omega)]
    exact row_drops n st sl (by omega)
def rowsK (n : Nat) (extra : Bool) : List Ins := (List.range n).map (fun i : Nat => ((2, (i : Int)) : Ins)) ++ List.replicate n (17, 0) ++ (if extra then [(2, 0)] else [])
/-- numbers laid and dropped, as many -/
theorem rows_safe {fs : List (List Int × Int)} {nt n : Nat} {extra result : Bool} {sl : List Int} (hn : n < 256) : SafeV ⟨fs, nt, if result then 1 else 0⟩ (rowsK n extra ++ [(18, 0)]) ⟨[], sl⟩ ↔ extra = result := by
  rw [straight_safe (fun i hi => ?_) rfl]
  · have h1 : rowV13 ⟨fs, nt, if result then 1 else 0⟩ (rowsK n extra) ⟨[], sl⟩ = some ⟨if extra then [1] else [], sl⟩ := by
      unfold rowsK
      rw [rowV13_app, rowV13_app, row_nums n _ (by simp) (fun i hi => ?_) [] sl (by simp; omega)]
      · show (Option.bind (rowV13 _ (List.replicate n ((17, 0) : Ins)) ⟨[] ++ List.replicate n 1, sl⟩) _) = _
        rw [row_drops n [] sl (by simp; omega)]
        show rowV13 _ (if extra then [(2, 0)] else []) ⟨[], sl⟩ = _
        cases extra <;> rfl
      · simp at hi
        obtain ⟨x, _, rfl⟩ := hi
        rfl
    rw [h1]
    have h2 : ∀ (s : Sv), stepV ⟨fs, nt, if result then 1 else 0⟩ ((18, 0) : Ins) s = (if s.st = (if (if result then (1 : Int) else 0) = 0 then [] else [if result then 1 else 0]) then some s else none) := fun s => rfl
    constructor
    · rintro ⟨s, s', h3, h4, _⟩
      injection h3 with h3
      subst h3
      rw [h2] at h4
      cases extra <;> cases result <;> simp at h4 ⊢
    · rintro rfl
      refine ⟨_, ⟨if extra then [1] else [], sl⟩, rfl, ?_, ?_⟩
      · rw [h2]
        cases extra <;> simp
      · cases extra <;> simp
  · unfold rowsK at hi
    rcases List.mem_append.1 hi with hi | hi
    · rcases List.mem_append.1 hi with hi | hi
      · simp at hi
        obtain ⟨x, _, rfl⟩ := hi
        exact ⟨show (2 : Int) ≠ 15 by decide, show (2 : Int) ≠ 16 by decide, show (2 : Int) ≠ 18 by decide⟩
      · rw [List.mem_replicate] at hi
        rw [hi.2]
        exact ⟨by decide, by decide, by decide⟩
    · cases extra
      · simp at hi
      · simp at hi
        subst hi
        exact ⟨by decide, by decide, by decide⟩
/-- what lays a thing of a type -/
def layK (t : Nat) : Ins := if t % 3 = 0 then (2, 0) else if t % 3 = 1 then (3, 0) else (4, 0)
def meetsK (a b : Nat) : List Ins := [(5, 0), (16, 5), layK a, (6, 1), (15, 7), layK b, (6, 1), (5, 1), (17, 0), (18, 0)]
theorem lay_step {fs : List (List Int × Int)} {r : Int} (t : Nat) (s : Sv) : stepV ⟨fs, 1, r⟩ (layK t) s = some (pushV s ((t % 3 : Nat) + 1)) := by
  unfold layK
  have := Nat.mod_lt t (show 0 < 3 by omega)
  by_cases h0 : t % 3 = 0
  · rw [if_pos h0, h0]; rfl
  · rw [if_neg h0]
    by_cases h1 : t % 3 = 1
    · rw [if_pos h1, h1]; rfl
    · rw [if_neg h1, show t % 3 = 2 by omega]; rfl
theorem lay_succ (t k : Nat) : succZ k (layK t) = [(k : Int) + 1] := by
  unfold layK
  split
  · rfl
  · split <;> rfl
/-- two ways that meet -/
theorem meets_safe {fs : List (List Int × Int)} (a b : Nat) : SafeV ⟨fs, 1, 0⟩ (meetsK a b) ⟨[], [2, 0]⟩ ↔ a % 3 = b % 3 := by
  constructor
  · rintro ⟨T, ⟨t0, h0, f0⟩, h⟩
    have go : ∀ (k : Nat) (s u w : Sv) (i : Ins) (q : Nat), T k = some s → FitV12 u s → (meetsK a b)[k]? = some i → stepV ⟨fs, 1, 0⟩ i u = some w → (q : Int) ∈ succZ k i → (∀ v v', stepV ⟨fs, 1, 0⟩ i v = some v' → FitV12 u v → FitV12 w v') → ∃ t, T q = some t ∧ FitV12 w t := by
      intro k s u w i q hs hu hi hw hq hf
      obtain ⟨i', hi', s', h1, h2, h3⟩ := h k s hs
      rw [hi] at hi'
      injection hi' with hi'
      subst hi'
      obtain ⟨_, _, t, h4, h5⟩ := h3 q hq
      exact ⟨t, h4, (hf s s' h1 hu).trans h5⟩
    have st : ∀ {i : Ins} {u w : Sv}, stepV ⟨fs, 1, 0⟩ i u = some w → ∀ v v', stepV ⟨fs, 1, 0⟩ i v = some v' → FitV12 u v → FitV12 w v' := fun hw v v' h1 hu => by
      obtain ⟨w', h2, h3⟩ := fit_step hu h1
      rw [hw] at h2
      injection h2 with h2
      rw [h2]
      exact h3
    have go' : ∀ (k : Nat) (s u w : Sv) (i : Ins) (q : Nat), T k = some s → FitV12 u s → (meetsK a b)[k]? = some i → stepV ⟨fs, 1, 0⟩ i u = some w → (q : Int) ∈ succZ k i → ∃ t, T q = some t ∧ FitV12 w t := fun k s u w i q h1 h2 h3 h4 h5 => go k s u w i q h1 h2 h3 h4 h5 (st h4)
    obtain ⟨t1, h1, f1⟩ := go' 0 t0 _ ⟨[2], [2, 0]⟩ _ 1 h0 f0 rfl rfl (by decide)
    obtain ⟨t2, h2, f2⟩ := go' 1 t1 _ ⟨[], [2, 0]⟩ _ 2 h1 f1 rfl rfl (by decide)
    obtain ⟨t5, h5, f5⟩ := go' 1 t1 _ ⟨[], [2, 0]⟩ _ 5 h1 f1 rfl rfl (by decide)
    obtain ⟨t3, h3, f3⟩ := go' 2 t2 _ ⟨[((a % 3 : Nat) : Int) + 1], [2, 0]⟩ _ 3 h2 f2 rfl (lay_step a _) (by rw [lay_succ]; simp)
    obtain ⟨t6, h6, f6⟩ := go' 5 t5 _ ⟨[((b % 3 : Nat) : Int) + 1], [2, 0]⟩ _ 6 h5 f5 rfl (lay_step b _) (by rw [lay_succ]; simp)
    obtain ⟨t4, h4, f4⟩ := go' 3 t3 _ ⟨[], [2, ((a % 3 : Nat) : Int) + 1]⟩ _ 4 h3 f3 rfl rfl (by decide)
    obtain ⟨t7, h7, f7⟩ := go' 4 t4 _ ⟨[], [2, ((a % 3 : Nat) : Int) + 1]⟩ _ 7 h4 f4 rfl rfl (by decide)
    obtain ⟨t7', h7', f7'⟩ := go' 6 t6 _ ⟨[], [2, ((b % 3 : Nat) : Int) + 1]⟩ _ 7 h6 f6 rfl rfl (by decide)
    rw [h7] at h7'
    injection h7' with h7'
    subst h7'
    obtain ⟨i, hi, s', g1, _⟩ := h 7 t7 h7
    have hi2 : (meetsK a b)[7]? = some (5, 1) := rfl
    rw [hi2] at hi
    injection hi with hi
    subst hi
    rw [show stepV ⟨fs, 1, 0⟩ ((5, 1) : Ins) t7 = (match t7.sl[1]? with | some t => if t = 0 then none else some (pushV t7 t) | none => none) from rfl] at g1
    cases hx : t7.sl[1]? with
    | none => rw [hx] at g1; cases g1
    | some x =>
      rw [hx] at g1
      dsimp only at g1
      by_cases hx0 : x = 0
      · rw [if_pos hx0] at g1; cases g1
      · have e1 := f7.sl 1 x hx hx0
        have e2 := f7'.sl 1 x hx hx0
        simp at e1 e2
        omega
  · intro he
    have hb : ((b % 3 : Nat) : Int) = (a % 3 : Nat) := by rw [he]
    generalize hA : ((a % 3 : Nat) : Int) + 1 = A at *
    have hB : ((b % 3 : Nat) : Int) + 1 = A := by omega
    have hA0 : A ≠ 0 := by omega
    have la : ∀ s, stepV ⟨fs, 1, 0⟩ (layK a) s = some (pushV s A) := fun s => by rw [lay_step, hA]
    have lb : ∀ s, stepV ⟨fs, 1, 0⟩ (layK b) s = some (pushV s A) := fun s => by rw [lay_step, hB]
    refine ⟨fun k => ([⟨[], [2, 0]⟩, ⟨[2], [2, 0]⟩, ⟨[], [2, 0]⟩, ⟨[A], [2, 0]⟩, ⟨[], [2, A]⟩, ⟨[], [2, 0]⟩, ⟨[A], [2, 0]⟩, ⟨[], [2, A]⟩, ⟨[A], [2, A]⟩, ⟨[], [2, A]⟩] : List Sv)[k]?, ⟨_, rfl, .refl _⟩, fun k s hs => ?_⟩
    have hk : k < 10 := by
      have := (List.getElem?_eq_some_iff.1 hs).1
      exact this
    have one : ∀ (i : Ins) (s' : Sv) (q : Nat) (t : Sv), (meetsK a b)[k]? = some i → stepV ⟨fs, 1, 0⟩ i s = some s' → s'.st.length ≤ 2100 → succZ k i = [(q : Int)] → q < 10 → ([⟨[], [2, 0]⟩, ⟨[2], [2, 0]⟩, ⟨[], [2, 0]⟩, ⟨[A], [2, 0]⟩, ⟨[], [2, A]⟩, ⟨[], [2, 0]⟩, ⟨[A], [2, 0]⟩, ⟨[], [2, A]⟩, ⟨[A], [2, A]⟩, ⟨[], [2, A]⟩] : List Sv)[q]? = some t → s' = t →
        ∃ i, (meetsK a b)[k]? = some i ∧ ∃ s', stepV ⟨fs, 1, 0⟩ i s = some s' ∧ s'.st.length ≤ 2100 ∧ ∀ q ∈ succZ k i, 0 ≤ q ∧ q < (meetsK a b).length ∧ ∃ t, ([⟨[], [2, 0]⟩, ⟨[2], [2, 0]⟩, ⟨[], [2, 0]⟩, ⟨[A], [2, 0]⟩, ⟨[], [2, A]⟩, ⟨[], [2, 0]⟩, ⟨[A], [2, 0]⟩, ⟨[], [2, A]⟩, ⟨[A], [2, A]⟩, ⟨[], [2, A]⟩] : List Sv)[q.toNat]? = some t ∧ FitV12 s' t :=
      fun i s' q t h1 h2 h3 h4 h5 h6 h7 => ⟨i, h1, s', h2, h3, fun p hp => by
        rw [h4, List.mem_singleton] at hp
        subst hp
        exact ⟨by omega, by show (q : Int) < 10; omega, t, h6, h7 ▸ .refl s'⟩⟩
    rcases k with _ | _ | _ | _ | _ | _ | _ | _ | _ | _ | k
    · injection hs with hs; subst hs; exact one (5, 0) ⟨[2], [2, 0]⟩ 1 _ rfl rfl (by simp) rfl (by omega) rfl rfl
    · injection hs with hs; subst hs
      refine ⟨(16, 5), rfl, ⟨[], [2, 0]⟩, rfl, by simp, fun p hp => ?_⟩
      rw [show succZ (0 + 1) ((16, 5) : Ins) = [5, 2] from rfl] at hp
      simp at hp
      rcases hp with rfl | rfl
      · exact ⟨by omega, by show (5 : Int) < 10; omega, _, rfl, .refl _⟩
      · exact ⟨by omega, by show (2 : Int) < 10; omega, _, rfl, .refl _⟩
    · injection hs with hs; subst hs; exact one (layK a) ⟨[A], [2, 0]⟩ 3 _ rfl (la _) (by simp) (lay_succ a 2) (by omega) rfl rfl
    · injection hs with hs; subst hs; exact one (6, 1) ⟨[], [2, A]⟩ 4 _ rfl rfl (by simp) rfl (by omega) rfl rfl
    · injection hs with hs; subst hs; exact one (15, 7) ⟨[], [2, A]⟩ 7 _ rfl rfl (by simp) rfl (by omega) rfl rfl
    · injection hs with hs; subst hs; exact one (layK b) ⟨[A], [2, 0]⟩ 6 _ rfl (lb _) (by simp) (lay_succ b 5) (by omega) rfl rfl
    · injection hs with hs; subst hs; exact one (6, 1) ⟨[], [2, A]⟩ 7 _ rfl rfl (by simp) rfl (by omega) rfl rfl
    · injection hs with hs; subst hs
      refine one (5, 1) ⟨[A], [2, A]⟩ 8 _ rfl ?_ (by simp) rfl (by omega) rfl rfl
      rw [show stepV ⟨fs, 1, 0⟩ ((5, 1) : Ins) ⟨[], [2, A]⟩ = (if A = 0 then none else some (pushV ⟨[], [2, A]⟩ A)) from rfl, if_neg hA0]
      rfl
    · injection hs with hs; subst hs; exact one (17, 0) ⟨[], [2, A]⟩ 9 _ rfl rfl (by simp) rfl (by omega) rfl rfl
    · injection hs with hs; subst hs
      refine ⟨(18, 0), rfl, ⟨[], [2, A]⟩, rfl, by simp, fun p hp => ?_⟩
      rw [show succZ (0 + 1 + 1 + 1 + 1 + 1 + 1 + 1 + 1 + 1) ((18, 0) : Ins) = [] from rfl] at hp
      cases hp
    · omega
/-- a module whose functions are safe, with a name each -/
structure SafeM (cs : List Kc) (nt : Nat) : Prop where
  names : (cs.map (·.name)).Nodup
  each : ∀ c ∈ cs, safeK cs nt c
/-- one more at the end, which calls nobody, and has a name of its own -/
theorem safeM_each {cs : List Kc} {nt : Nat} {d : Kc} (hd : ∀ i ∈ d.ins, i.1 ≠ 14 ∧ i.1 ≠ 4) (hc : ∀ c ∈ cs, ∀ i ∈ c.ins, i.1 = 14 → i.2 ≠ cs.length) (hn : ∀ c ∈ cs, c.name ≠ d.name) :
    SafeM (cs ++ [d]) nt ↔ SafeM [d] 0 ∧ SafeM cs nt := by
  constructor
  · rintro ⟨h1, h2⟩
    obtain ⟨h3, h4⟩ := (safe_each hd hc).1 h2
    rw [List.map_append, List.nodup_append] at h1
    exact ⟨⟨by simp, h3⟩, h1.1, h4⟩
  · rintro ⟨⟨h1, h2⟩, h3, h4⟩
    refine ⟨?_, (safe_each hd hc).2 ⟨h2, h4⟩⟩
    rw [List.map_append, List.nodup_append]
    refine ⟨h3, by simp, fun a ha b hb e => ?_⟩
    obtain ⟨c, hc', rfl⟩ := List.mem_map.1 ha
    rw [List.map_singleton, List.mem_singleton] at hb
    exact hn c hc' (e.trans hb)
/-- how much is left to find out: m slots at n places -/
def leftV (m : Nat) : Nat → Tv → Nat
  | 0, _ => 0
  | n + 1, T => leftV m n T + (match T n with | none => m + 1 | some s => knownV s)
theorem left_far {m : Nat} {T : Tv} {q : Nat} {s : Sv} : ∀ n, n ≤ q → leftV m n (setV T q s) = leftV m n T
  | 0, _ => rfl
  | n + 1, h => by
    unfold leftV
    rw [left_far n (by omega)]
    have : setV T q s n = T n := by unfold setV; rw [if_neg (by omega)]
    rw [this]
theorem left_set {m : Nat} {T : Tv} {q : Nat} {s : Sv} (h : knownV s < (match T q with | none => m + 1 | some s => knownV s)) : ∀ n, q < n → leftV m n (setV T q s) < leftV m n T
  | 0, hq => by omega
  | n + 1, hq => by
    unfold leftV
    by_cases e : n = q
    · subst e
      rw [left_far n (Nat.le_refl _)]
      have : setV T n s n = some s := by unfold setV; rw [if_pos rfl]
      rw [this]
      dsimp only
      omega
    · have : setV T q s n = T n := by unfold setV; rw [if_neg e]
      rw [this]
      have := left_set h n (by omega)
      omega
theorem known_le (s : Sv) : knownV s ≤ s.sl.length := List.countP_le_length
/-- a state that changes a place leaves less to find out -/
theorem left_come {m n : Nat} {T : Tv} {q : Nat} {s : Sv} (hq : q < n) (hs : s.sl.length = m) (hT : ∀ b, T q = some b → b.sl.length = m) (hc : T q ≠ some (comeV (T q) s)) : leftV m n (setV T q (comeV (T q) s)) < leftV m n T := by
  refine left_set ?_ n hq
  cases hb : T q with
  | none =>
    show knownV s < m + 1
    have := known_le s
    omega
  | some b =>
    show knownV (meetV b s) < knownV b
    refine meetV_less ((hT b hb).trans hs.symm) fun e => hc ?_
    rw [hb]
    exact congrArg some e.symm
theorem left_le {m : Nat} {T : Tv} (hT : ∀ k s, T k = some s → s.sl.length = m) : ∀ n, leftV m n T ≤ n * (m + 1)
  | 0 => by simp [leftV]
  | n + 1 => by
    unfold leftV
    have := left_le hT n
    have h2 : (match T n with | none => m + 1 | some s => knownV s) ≤ m + 1 := by
      cases hb : T n with
      | none => exact Nat.le_refl _
      | some s =>
        have h3 := known_le s
        have h4 := hT n s hb
        show knownV s ≤ m + 1
        omega
    rw [Nat.succ_mul]
    omega
/-- nothing changes where a state that comes changes nothing -/
theorem setV_same {T : Tv} {q : Nat} {s : Sv} (h : T q = some s) : setV T q s = T := by
  funext k
  unfold setV
  split
  · rename_i e; rw [e, h]
  · rfl
end Go.Proofs.YtilmidjkjgeoeaaDoor
