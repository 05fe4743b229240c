/- The search: an instruction is looked at, one way that it leads after the other. No program. Conditions: those in each theorem. -/
import Derived.Test.YtilmidjkjgeoeaaDoorVZ
namespace Go.Proofs.YtilmidjkjgeoeaaDoor
open Go.RowKit Go.MapKept
set_option maxRecDepth 100000
set_option linter.unusedVariables false
set_option linter.unusedSimpArgs false
theorem WorkV.mono {P : Pv} {ins : List Ins} {a : Sv} {T : Tv} {W W' : Nat → Prop} (h : WorkV P ins a T W) (hW : ∀ j, W j → W' j) : WorkV P ins a T W' :=
  ⟨h.first, h.len, fun k hk => h.all k fun hw => hk (hW k hw), h.low⟩
/-- an instruction with the state s, s' behind it: some of the ways that it leads have been followed -/
structure Go1 (P : Pv) (ins : List Ins) (a : Sv) (T : Tv) (D : Nat → Prop) (k : Nat) (i : Ins) (s s' : Sv) (done : List Int) : Prop where
  wv : WorkV P ins a T (fun j => j = k ∨ D j)
  kept : T k = some s ∨ D k
  fits : ∀ q ∈ done, 0 ≤ q ∧ q < ins.length ∧ ∃ t, T q.toNat = some t ∧ FitV12 s' t
  low : ∀ U, AnnV P ins a U → ∀ q ∈ succZ k i, 0 ≤ q ∧ q < ins.length ∧ ∃ t, U q.toNat = some t ∧ FitV12 s' t
  hi : ins[k]? = some i
  h1 : stepV P i s = some s'
  hl : s'.st.length ≤ 2100
  hs : s'.sl.length = a.sl.length
theorem Go1.start {P : Pv} {ins : List Ins} {a : Sv} {T : Tv} {D : Nat → Prop} {k : Nat} {i : Ins} {s s' : Sv} (h : WorkV P ins a T (fun j => j = k ∨ D j)) (hs : T k = some s) (hi : ins[k]? = some i) (h1 : stepV P i s = some s') (hl : s'.st.length ≤ 2100) : Go1 P ins a T D k i s s' [] :=
  ⟨h, .inl hs, fun q hq => (by cases hq), fun U hU q hq => by
    obtain ⟨u, g1, _, g2⟩ := h.ann hU hs hi
    rw [h1] at g1
    injection g1 with g1
    subst g1
    exact g2 q hq, hi, h1, hl, (stepV_len h1).trans (h.len k s hs)⟩
theorem Go1.come {P : Pv} {ins : List Ins} {a : Sv} {T : Tv} {D D' : Nat → Prop} {k : Nat} {i : Ins} {s s' : Sv} {done : List Int} (h : Go1 P ins a T D k i s s' done) {q : Int} (hq : q ∈ succZ k i) (hq0 : 0 ≤ q ∧ q < ins.length) (hst : ∀ b, T q.toNat = some b → b.st = s'.st)
    (hD : ∀ j, D j → D' j) (hc : T q.toNat ≠ some (comeV (T q.toNat) s') → D' q.toNat) : Go1 P ins a (setV T q.toNat (comeV (T q.toNat) s')) D' k i s s' (q :: done) := by
  have hfit : FitV12 s' (comeV (T q.toNat) s') := by
    cases hb : T q.toNat with
    | none => exact .refl s'
    | some b => exact fit_meetR (hst b hb) ((h.wv.len _ b hb).trans h.hs.symm)
  have hg : GrowV T (setV T q.toNat (comeV (T q.toNat) s')) := fun j u hu => by
    unfold setV
    by_cases hj : j = q.toNat
    · subst hj
      rw [if_pos rfl]
      refine ⟨_, rfl, ?_⟩
      rw [hu]
      exact fit_meetL ((h.wv.len _ u hu).trans h.hs.symm)
    · rw [if_neg hj]
      exact ⟨u, hu, .refl u⟩
  refine ⟨⟨?_, fun j u hu => ?_, fun j hj => ?_, fun U hU j u hu => ?_⟩, ?_, fun p hp => ?_, h.low, h.hi, h.h1, h.hl, h.hs⟩
  · obtain ⟨t, h2, h3⟩ := h.wv.first
    obtain ⟨u, h4, h5⟩ := hg 0 t h2
    exact ⟨u, h4, h3.trans h5⟩
  · unfold setV at hu
    split at hu
    · injection hu with hu
      rw [← hu, ← hfit.len]
      exact h.hs
    · exact h.wv.len j u hu
  · intro u hu
    have hold : T j = some u := by
      unfold setV at hu
      split at hu
      · rename_i e
        subst e
        injection hu with hu
        rw [← hu]
        exact Classical.byContradiction fun hn => hj (.inr (hc hn))
      · exact hu
    obtain ⟨i', a1, u', a2, a3, a4⟩ := h.wv.all j (fun hw => hj (hw.imp id (hD j))) u hold
    refine ⟨i', a1, u', a2, a3, fun p hp => ?_⟩
    obtain ⟨b1, b2, t, b3, b4⟩ := a4 p hp
    obtain ⟨t', b5, b6⟩ := hg _ t b3
    exact ⟨b1, b2, t', b5, b4.trans b6⟩
  · unfold setV at hu
    split at hu
    · rename_i e
      subst e
      injection hu with hu
      obtain ⟨_, _, t, c4, c5⟩ := h.low U hU q hq
      refine ⟨t, c4, ?_⟩
      rw [← hu]
      cases hb : T q.toNat with
      | none => exact c5
      | some b =>
        obtain ⟨t', c6, c7⟩ := h.wv.low U hU _ b hb
        rw [c4] at c6
        injection c6 with c6
        subst c6
        exact (fit_meet c7 c5).2
    · exact h.wv.low U hU j u hu
  · by_cases e : T q.toNat = some (comeV (T q.toNat) s')
    · rcases h.kept with g | g
      · refine .inl ?_
        unfold setV
        split
        · rename_i e2
          rw [e2] at g
          rw [← e, g]
        · exact g
      · exact .inr (hD _ g)
    · by_cases e2 : k = q.toNat
      · exact .inr (e2 ▸ hc e)
      · rcases h.kept with g | g
        · refine .inl ?_
          unfold setV
          rw [if_neg e2]
          exact g
        · exact .inr (hD _ g)
  · rcases List.mem_cons.1 hp with rfl | hp
    · exact ⟨hq0.1, hq0.2, _, (by unfold setV; rw [if_pos rfl]), hfit⟩
    · obtain ⟨b1, b2, t, b3, b4⟩ := h.fits p hp
      obtain ⟨t', b5, b6⟩ := hg _ t b3
      exact ⟨b1, b2, t', b5, b4.trans b6⟩
theorem Go1.stop {P : Pv} {ins : List Ins} {a : Sv} {T : Tv} {D : Nat → Prop} {k : Nat} {i : Ins} {s s' : Sv} {done : List Int} (h : Go1 P ins a T D k i s s' done) (hd : ∀ q ∈ succZ k i, q ∈ done) : WorkV P ins a T D := by
  by_cases hD : D k
  · exact h.wv.mono fun j hj => hj.elim (fun e => e ▸ hD) id
  · rcases h.kept with g | g
    · refine h.wv.drop (k := k) (fun u hu => ?_) fun j hj => hj
      rw [g] at hu
      injection hu with hu
      subst hu
      exact ⟨i, h.hi, s', h.h1, h.hl, fun q hq => h.fits q (hd q hq)⟩
    · exact absurd g hD
theorem Go1.fall {P : Pv} {ins : List Ins} {a : Sv} {T : Tv} {D : Nat → Prop} {k : Nat} {i : Ins} {s s' : Sv} {done : List Int} (h : Go1 P ins a T D k i s s' done) {q : Int} (hq : q ∈ succZ k i) (hf : ¬ (0 ≤ q ∧ q < ins.length) ∨ ∃ b, T q.toNat = some b ∧ b.st ≠ s'.st) : ¬ SafeV P ins a := by
  rintro ⟨U, hU⟩
  obtain ⟨a1, a2, t, a3, a4⟩ := h.low U hU q hq
  rcases hf with hf | ⟨b, h4, h5⟩
  · exact hf ⟨a1, a2⟩
  · obtain ⟨t', h6, h7⟩ := h.wv.low U hU _ b h4
    rw [a3] at h6
    injection h6 with h6
    subst h6
    exact h5 (h7.st.trans a4.st.symm)
/-- a round of the search, behind the effect -/
structure Sr (B W : Nat) (x0 : Wx) (P : Pv) (c : Cd) (a0 : Sv) (N : Nat) (x : Wx) (S : List (List Int)) (T : Tv) (D : Nat → Prop) (k : Nat) (at_ : Nat) (i : Ins) (s s' : Sv) (done : List Int) (L V R : Value) (w : World) : Prop where
  wk : WkAt B W x L V R w
  ok : StOk x.E S
  tv : TvR S a0.sl.length x.pl T
  g : Go1 P c.instrs a0 T D at_ i s s' done
  rem : ∀ j ∈ x.rem, (∃ s, T j = some s) ∧ D j
  same : SameX x0 x
  pl : x.pl.length = c.instrs.length
  bd : x.E.length + k ≤ N
  left : leftN a0 c T x ≤ k
theorem Sr.below {B W : Nat} {x0 : Wx} {P : Pv} {c : Cd} {a0 : Sv} {N : Nat} {x : Wx} {S : List (List Int)} {T : Tv} {D : Nat → Prop} {k at_ : Nat} {i : Ins} {s s' : Sv} {done : List Int} {L V R : Value} {w w' : World} (h : Sr B W x0 P c a0 N x S T D k at_ i s s' done L V R w) (hb : Below w.heap.size w w') : Sr B W x0 P c a0 N x S T D k at_ i s s' done L V R w' :=
  ⟨h.wk.below hb, h.ok, h.tv, h.g, h.rem, h.same, h.pl, h.bd, h.left⟩
/-- behind the effect -/
theorem Sf.begin {B W : Nat} {x0 : Wx} {P : Pv} {c : Cd} {a0 : Sv} {N : Nat} {x : Wx} {S S' : List (List Int)} {T : Tv} {k at_ : Nat} {i : Ins} {s s' : Sv} {L V R L' : Value} {E' : List Stk} {w w' : World}
    (h : Sf B W x0 P c a0 N x S T (fun j => j = at_ ∨ j ∈ x.rem) (k + 1) L V R w) (hl : leftN a0 c T x ≤ k) (hs : T at_ = some s) (hi : c.instrs[at_]? = some i) (h1 : stepV P i s = some s') (hst : s'.st.length ≤ 2100)
    (hk : WkAt B W { x with E := E' } L' V R w') (ho : StOk E' S') (hS : S <+: S') (hE : E'.length ≤ x.E.length + 1) :
    Sr B W x0 P c a0 N { x with E := E' } S' T (fun j => j ∈ x.rem) k at_ i s s' [] L' V R w' :=
  ⟨hk, ho, h.tv.grow hS, .start h.wv hs hi h1 hst, fun j hj => ⟨(h.rem j hj).1, hj⟩, ⟨h.same.C, h.same.Tx, h.same.r, h.same.sl, h.same.I⟩, h.pl, by have := h.bd; show E'.length + k ≤ N; omega, hl⟩
theorem Sr.bad {B W : Nat} {x0 : Wx} {P : Pv} {c : Cd} {a0 : Sv} {N : Nat} {x : Wx} {S : List (List Int)} {T : Tv} {D : Nat → Prop} {k at_ : Nat} {i : Ins} {s s' : Sv} {done : List Int} {L V R : Value} {w : World} {n : Nat} {ys : List Nat} {q : Int} (h : Sr B W x0 P c a0 N x S T D k at_ i s s' done L V R w) (hr : RepV S a0.sl.length n ys s') (hm : a0.sl.length ≤ 256) (hq : q ∈ succZ at_ i) (e : (reachM x.pl q n ys).2.2 = false) : ¬ SafeV P c.instrs a0 := by
  refine h.g.fall hq ?_
  rcases (reach_plain h.ok h.tv hr q hm).1 e with g | g
  · rw [h.pl] at g; exact .inl g
  · exact .inr g
/-- a state has come to a place that is to be looked at later -/
theorem Sr.later {B W : Nat} {x0 : Wx} {P : Pv} {c : Cd} {a0 : Sv} {N : Nat} {x : Wx} {S : List (List Int)} {T : Tv} {k at_ : Nat} {i : Ins} {s s' : Sv} {done : List Int} {L V R R' : Value} {w w' : World} {n : Nat} {ys : List Nat} {q : Int} (h : Sr B W x0 P c a0 N x S T (fun j => j ∈ x.rem) k at_ i s s' done L V R w) (hr : RepV S a0.sl.length n ys s') (hm : a0.sl.length ≤ 256) (hq : q ∈ succZ at_ i) (e : (reachM x.pl q n ys).2.2 = true)
    (hk : WkAt B W { x with pl := (reachM x.pl q n ys).1, rem := if (reachM x.pl q n ys).2.1 then x.rem ++ [q.toNat] else x.rem } L V R' w') :
    ∃ x' T', Sr B W x0 P c a0 N x' S T' (fun j => j ∈ x'.rem) k at_ i s s' (q :: done) L V R' w' ∧ x'.E = x.E := by
  obtain ⟨g1, g2, g3, g4, g5, g6⟩ := (reach_plain h.ok h.tv hr q hm).2 e
  have g1' : 0 ≤ q ∧ q < c.instrs.length := by rw [← h.pl]; exact g1
  cases hc : (reachM x.pl q n ys).2.1 with
  | false =>
    rw [hc] at hk
    simp only [Bool.false_eq_true, if_false] at hk
    have hT := setV_same (g4 hc)
    refine ⟨_, T, ⟨hk, h.ok, by rw [hT] at g3; exact g3, by have := h.g.come hq g1' g2 (fun _ h => h) (fun hn => absurd (g4 hc) hn); rwa [hT] at this, h.rem, ⟨h.same.C, h.same.Tx, h.same.r, h.same.sl, h.same.I⟩, g6.trans h.pl, h.bd, h.left⟩, rfl⟩
  | true =>
    rw [hc] at hk
    simp only [if_true] at hk
    have hlt := left_come (n := c.instrs.length) (m := a0.sl.length) (T := T) (q := q.toNat) (s := s') (by omega) h.g.hs (fun b hb => h.g.wv.len _ b hb) (g5 hc)
    refine ⟨_, _, ⟨hk, h.ok, g3, h.g.come hq g1' g2 (fun j hj => List.mem_append_left _ hj) (fun _ => List.mem_append_right _ (List.mem_singleton.2 rfl)), fun j hj => ⟨?_, hj⟩, ⟨h.same.C, h.same.Tx, h.same.r, h.same.sl, h.same.I⟩, g6.trans h.pl, h.bd, ?_⟩, rfl⟩
    · rcases List.mem_append.1 hj with hj | hj
      · obtain ⟨u, hu⟩ := (h.rem j hj).1
        unfold setV
        split
        · exact ⟨_, rfl⟩
        · exact ⟨u, hu⟩
      · rw [List.mem_singleton.1 hj]
        unfold setV
        rw [if_pos rfl]
        exact ⟨_, rfl⟩
    · have := h.left
      unfold leftN at this ⊢
      dsimp only
      rw [List.length_append, List.length_singleton]
      omega
/-- a state has come to the last place that an instruction leads to -/
theorem Sr.end_ {B W : Nat} {x0 : Wx} {P : Pv} {c : Cd} {a0 : Sv} {N : Nat} {x : Wx} {S : List (List Int)} {T : Tv} {k at_ : Nat} {i : Ins} {s s' : Sv} {done : List Int} {L V R : Value} {w w' : World} {n : Nat} {ys : List Nat} {q : Int} (h : Sr B W x0 P c a0 N x S T (fun j => j ∈ x.rem) k at_ i s s' done L V R w) (hr : RepV S a0.sl.length n ys s') (hm : a0.sl.length ≤ 256) (hq : q ∈ succZ at_ i) (hd : ∀ p ∈ succZ at_ i, p = q ∨ p ∈ done) (e : (reachM x.pl q n ys).2.2 = true)
    (hk : WkAt B W { x with pl := (reachM x.pl q n ys).1 } L V R w') :
    0 ≤ q ∧ (((reachM x.pl q n ys).2.1 = false ∧ ∃ x', Sf B W x0 P c a0 N x' S T (fun j => j ∈ x'.rem) k L V R w' ∧ leftN a0 c T x' ≤ k) ∨
    ((reachM x.pl q n ys).2.1 = true ∧ ∃ x' T' k', k' < k ∧ Sf B W x0 P c a0 N x' S T' (fun j => j = q.toNat ∨ j ∈ x'.rem) (k' + 1) L V R w' ∧ leftN a0 c T' x' ≤ k' ∧ ∃ u, T' q.toNat = some u)) := by
  obtain ⟨g1, g2, g3, g4, g5, g6⟩ := (reach_plain h.ok h.tv hr q hm).2 e
  have g1' : 0 ≤ q ∧ q < c.instrs.length := by rw [← h.pl]; exact g1
  refine ⟨g1.1, ?_⟩
  have hdd : ∀ p ∈ succZ at_ i, p ∈ q :: done := fun p hp => (hd p hp).elim (fun e => e ▸ List.mem_cons_self) (List.mem_cons_of_mem _)
  cases hc : (reachM x.pl q n ys).2.1 with
  | false =>
    have hT := setV_same (g4 hc)
    refine .inl ⟨rfl, _, ⟨hk, h.ok, by rw [hT] at g3; exact g3, by have := (h.g.come hq g1' g2 (fun _ h => h) (fun hn => absurd (g4 hc) hn)).stop hdd; rwa [hT] at this, h.rem, ⟨h.same.C, h.same.Tx, h.same.r, h.same.sl, h.same.I⟩, g6.trans h.pl, h.bd⟩, h.left⟩
  | true =>
    have hlt := left_come (n := c.instrs.length) (m := a0.sl.length) (T := T) (q := q.toNat) (s := s') (by omega) h.g.hs (fun b hb => h.g.wv.len _ b hb) (g5 hc)
    have hlf := h.left
    have hbd := h.bd
    unfold leftN at hlf
    refine .inr ⟨rfl, _, _, k - 1, by omega, ⟨hk, h.ok, g3, (h.g.come (D' := fun j => j = q.toNat ∨ j ∈ x.rem) hq g1' g2 (fun j hj => .inr hj) (fun _ => .inl rfl)).stop hdd, fun j hj => ⟨?_, .inr hj⟩, ⟨h.same.C, h.same.Tx, h.same.r, h.same.sl, h.same.I⟩, g6.trans h.pl, by show x.E.length + _ ≤ N; omega⟩, by unfold leftN; dsimp only; omega, _, by unfold setV; rw [if_pos rfl]⟩
    obtain ⟨u, hu⟩ := (h.rem j hj).1
    unfold setV
    split
    · exact ⟨_, rfl⟩
    · exact ⟨u, hu⟩
/-- an instruction that leads nowhere -/
theorem Sr.none_ {B W : Nat} {x0 : Wx} {P : Pv} {c : Cd} {a0 : Sv} {N : Nat} {x : Wx} {S : List (List Int)} {T : Tv} {k at_ : Nat} {i : Ins} {s s' : Sv} {L V R : Value} {w : World} (h : Sr B W x0 P c a0 N x S T (fun j => j ∈ x.rem) k at_ i s s' [] L V R w) (hn : succZ at_ i = []) :
    Sf B W x0 P c a0 N x S T (fun j => j ∈ x.rem) k L V R w :=
  ⟨h.wk, h.ok, h.tv, h.g.stop (by rw [hn]; intro q hq; cases hq), h.rem, h.same, h.pl, h.bd⟩
end Go.Proofs.YtilmidjkjgeoeaaDoor
