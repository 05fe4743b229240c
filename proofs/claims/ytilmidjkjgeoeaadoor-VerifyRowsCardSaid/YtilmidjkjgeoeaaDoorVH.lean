/- Stacks by their numbers as rows of types; a state; the stack's top taken, a type put on it. Conditions: those in each theorem. -/
import Derived.Test.YtilmidjkjgeoeaaDoorVG
namespace Go.Proofs.YtilmidjkjgeoeaaDoor
open Go.RowKit Go.MapKept
set_option maxRecDepth 100000
set_option linter.unusedVariables false
set_option linter.unusedSimpArgs false
def okTy (t : Int) : Prop := 1 ≤ t ∧ t ≤ 3
/-- the stacks that the entries E are -/
structure StOk (E : List Stk) (S : List (List Int)) : Prop where
  len : S.length = E.length
  e0 : E[0]? = some (0, 0, 0)
  s0 : S[0]? = some []
  step : ∀ (n : Nat) (e : Stk), 1 ≤ n → E[n]? = some e → ∃ ts, S[e.2.1]? = some ts ∧ S[n]? = some (ts ++ [e.1]) ∧ e.2.2 = ts.length + 1
  once : ∀ (i j : Nat) (ts : List Int), S[i]? = some ts → S[j]? = some ts → i = j
  cap : ∀ ts ∈ S, ts.length ≤ 2100
  ty : ∀ ts ∈ S, ∀ t ∈ ts, okTy t
theorem StOk.at {E : List Stk} {S : List (List Int)} (h : StOk E S) {n : Nat} {ts : List Int} (hn : S[n]? = some ts) : ∃ e, E[n]? = some e ∧ e.2.2 = ts.length ∧ e.1 = ts.getLast?.getD 0 ∧ S[e.2.1]? = some ts.dropLast := by
  have hl := (List.getElem?_eq_some_iff.1 hn).1
  obtain ⟨e, he⟩ : ∃ e, E[n]? = some e := ⟨E[n]'(by rw [← h.len]; exact hl), List.getElem?_eq_getElem _⟩
  refine ⟨e, he, ?_⟩
  by_cases h0 : n = 0
  · subst h0
    rw [h.e0] at he
    injection he with he
    subst he
    rw [h.s0] at hn
    injection hn with hn
    subst hn
    exact ⟨rfl, rfl, h.s0⟩
  · obtain ⟨r, g1, g2, g3⟩ := h.step n e (by omega) he
    rw [hn] at g2
    injection g2 with g2
    subst g2
    refine ⟨by rw [g3]; simp, by simp, by simpa using g1⟩
theorem StOk.new {E : List Stk} {S : List (List Int)} (h : StOk E S) {n : Nat} {ts : List Int} {t : Int} (hn : S[n]? = some ts) (ht : okTy t) (hc : ts.length + 1 ≤ 2100) (hno : (t, n, ts.length + 1) ∉ E.tail) : StOk (E ++ [(t, n, ts.length + 1)]) (S ++ [ts ++ [t]]) := by
  have hEl : 0 < E.length := (List.getElem?_eq_some_iff.1 h.e0).1
  have hSl : 0 < S.length := by rw [h.len]; exact hEl
  have hnl := (List.getElem?_eq_some_iff.1 hn).1
  have fresh : ∀ i, S[i]? ≠ some (ts ++ [t]) := fun i hi => by
    have hi0 : i ≠ 0 := fun e => by
      subst e
      rw [h.s0] at hi
      injection hi with hi
      simp at hi
    obtain ⟨e, he, g1, g2, g3⟩ := h.at hi
    simp at g1 g2 g3
    have : e.2.1 = n := h.once _ _ ts g3 hn
    have : e = (t, n, ts.length + 1) := by
      obtain ⟨a, b, c⟩ := e
      simp_all
    subst this
    refine hno (List.mem_of_getElem? (i := i - 1) ?_)
    rw [List.getElem?_tail, show i - 1 + 1 = i by omega]
    exact he
  refine ⟨by simp [h.len], ?_, ?_, fun k e hk he => ?_, fun i j us hi hj => ?_, fun us hu => ?_, fun us hu => ?_⟩
  · rw [List.getElem?_append_left hEl]; exact h.e0
  · rw [List.getElem?_append_left hSl]; exact h.s0
  · by_cases hkl : k < E.length
    · rw [List.getElem?_append_left hkl] at he
      obtain ⟨r, g1, g2, g3⟩ := h.step k e hk he
      refine ⟨r, ?_, ?_, g3⟩
      · rw [List.getElem?_append_left (List.getElem?_eq_some_iff.1 g1).1]; exact g1
      · rw [List.getElem?_append_left (List.getElem?_eq_some_iff.1 g2).1]; exact g2
    · rw [List.getElem?_append_right (by omega)] at he
      have hk2 : k - E.length = 0 := by
        have := (List.getElem?_eq_some_iff.1 he).1
        simp at this
        omega
      rw [hk2] at he
      simp at he
      subst he
      refine ⟨ts, by rw [List.getElem?_append_left hnl]; exact hn, ?_, rfl⟩
      rw [List.getElem?_append_right (by rw [h.len]; omega), h.len, hk2]
      rfl
  · by_cases hil : i < S.length <;> by_cases hjl : j < S.length
    · rw [List.getElem?_append_left hil] at hi
      rw [List.getElem?_append_left hjl] at hj
      exact h.once i j us hi hj
    · rw [List.getElem?_append_left hil] at hi
      rw [List.getElem?_append_right (by omega)] at hj
      have := (List.getElem?_eq_some_iff.1 hj).1
      have hj0 : j - S.length = 0 := by simp at this; omega
      rw [hj0] at hj
      simp at hj
      subst hj
      exact (fresh i hi).elim
    · rw [List.getElem?_append_left hjl] at hj
      rw [List.getElem?_append_right (by omega)] at hi
      have := (List.getElem?_eq_some_iff.1 hi).1
      have hi0 : i - S.length = 0 := by simp at this; omega
      rw [hi0] at hi
      simp at hi
      subst hi
      exact (fresh j hj).elim
    · rw [List.getElem?_append_right (by omega)] at hi hj
      have h1 := (List.getElem?_eq_some_iff.1 hi).1
      have h2 := (List.getElem?_eq_some_iff.1 hj).1
      simp at h1 h2
      omega
  · rcases List.mem_append.1 hu with hu | hu
    · exact h.cap us hu
    · simp at hu; subst hu; simp; omega
  · rcases List.mem_append.1 hu with hu | hu
    · exact h.ty us hu
    · simp at hu; subst hu
      intro x hx
      rcases List.mem_append.1 hx with hx | hx
      · exact h.ty ts (List.mem_of_getElem? hn) x hx
      · simp at hx; subst hx; exact ht
/-- words as slots -/
def SlR (xs : List Nat) (sl : List Int) : Prop := ∀ j, j < 256 → ((slOf xs j : Nat) : Int) = sl[j]?.getD 0
/-- a state of the walk: its stacks, its own block at St -/
structure StS (B W St : Nat) (x : Wx) (S : List (List Int)) (L V R : Value) (s : Sv) (w : World) : Prop where
  wk : WkAt B W x L V R w
  ok : StOk x.E S
  st : ∃ n xs, w.heap[St]? = some (stO n xs) ∧ S[n]? = some s.st ∧ Ws8 xs ∧ SlR xs s.sl
  hB : B ≤ St
  sl : s.sl.length ≤ 256
theorem popS {B W St : Nat} {x : Wx} {S : List (List Int)} {L V R : Value} {s : Sv} {w : World} (h : StS B W St x S L V R s w) :
    Calls Tryd.prog 38 #[.pointer (some ⟨W, 0, none⟩), .pointer (some ⟨St, 0, none⟩)] w fun r w' => r = .returned (.int .i64 (s.st.getLast?.getD 0)) ∧ StS B W St x S L V R ⟨s.st.dropLast, s.sl⟩ w' ∧ w.grownBy w' (some St) := by
  obtain ⟨hw, ho, ⟨n, xs, h1, h2, h3, h4⟩, hB, hs⟩ := h
  obtain ⟨e, he, g1, g2, g3⟩ := ho.at h2
  refine (popC St n xs e w hw h1 he).mono ?_
  rintro r w' ⟨rfl, k1, k2⟩
  exact ⟨by rw [g2], ⟨hw.other k2 h1 (by decide), ho, ⟨_, xs, k1, g3, h3, h4⟩, hB, hs⟩, k2⟩
/-- behind a push -/
def PushS (B W St : Nat) (x : Wx) (S : List (List Int)) (V R : Value) (s : Sv) (t : Int) (w : World) (r : Ending) (w' : World) : Prop :=
  ((t = 0 ∨ 2100 < s.st.length + 1) ∧ r = .returned (.bool false) ∧ Below w.heap.size w w') ∨
  (¬ (t = 0 ∨ 2100 < s.st.length + 1) ∧ r = .returned (.bool true) ∧ ∃ E' S' L', S <+: S' ∧ E'.length ≤ x.E.length + 1 ∧ StS B W St { x with E := E' } S' L' V R (pushV s t) w' ∧ Mt B tsP w w')
theorem pushS {B W St : Nat} {x : Wx} {S : List (List Int)} {L V R : Value} {s : Sv} (t : Int) {w : World} (h : StS B W St x S L V R s w) (ht : t = 0 ∨ okTy t) (hl : x.E.length ≤ 1000000000) :
    Calls Tryd.prog 34 #[.pointer (some ⟨W, 0, none⟩), .pointer (some ⟨St, 0, none⟩), .int .i64 t] w (PushS B W St x S V R s t w) := by
  obtain ⟨hw, ho, ⟨n, xs, h1, h2, h3, h4⟩, hB, hs⟩ := h
  obtain ⟨e, he, g1, g2, g3⟩ := ho.at h2
  have hc := ho.cap _ (List.mem_of_getElem? h2)
  refine (pushC St n xs e t w hw h1 he hB hl (by omega)).mono ?_
  rintro r w' (⟨k1, k2, k3⟩ | ⟨k1, rfl, k, E', L', k2, k3, k4, k5⟩)
  · rw [g1] at k1
    exact .inl ⟨k1, k2, k3⟩
  · rw [g1] at k1 k2
    refine .inr ⟨k1, rfl, ?_⟩
    rcases k2 with ⟨rfl, hk1, hk⟩ | ⟨rfl, rfl, hno⟩
    · obtain ⟨ts, q1, q2, q3⟩ := ho.step k _ hk1 hk
      have : ts = s.st := by
        have q1' : S[n]? = some ts := q1
        rw [h2] at q1'
        injection q1' with q1'
        exact q1'.symm
      subst this
      exact ⟨_, S, L', List.prefix_refl _, by omega, ⟨k3, ho, ⟨k, xs, k4, q2, h3, h4⟩, hB, hs⟩, k5⟩
    · have hok : okTy t := ht.elim (fun e => absurd (.inl e) k1) id
      have hcap : s.st.length + 1 ≤ 2100 := by
        have := fun e => k1 (.inr e)
        omega
      refine ⟨_, S ++ [s.st ++ [t]], L', List.prefix_append _ _, by simp, ⟨k3, ho.new h2 hok hcap hno, ⟨x.E.length, xs, k4, ?_, h3, h4⟩, hB, hs⟩, k5⟩
      rw [← ho.len, List.getElem?_append_right (Nat.le_refl _)]
      simp [pushV]
end Go.Proofs.YtilmidjkjgeoeaaDoor
