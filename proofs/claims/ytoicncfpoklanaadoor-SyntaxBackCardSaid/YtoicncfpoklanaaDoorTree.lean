/- Expressions, statements and functions as they lie in memory; nothing of the program. Conditions: those in each theorem. -/
import Derived.Test.YtoicncfpoklanaaDoorSyn
namespace Go.Proofs.YtoicncfpoklanaaDoor
open Go.RowKit

/-- the slice V has n elements, whose cells are xs, in blocks from lo on, below B -/
def RowF (w : World) (D : Nat → Prop) (n : Nat) (xs : List Value) (V : Value) : Prop :=
  ∃ A c, V = .slice A n c ∧ n ≤ c ∧ c ≤ maxLen ∧ (A = none → c = 0) ∧ ∀ j u, xs[j]? = some u → ∃ ad, A = some ad ∧ D ad.block ∧ w.cell? (ad.add j) = some u
/-- the blocks of D are as they were -/
def Same (D : Nat → Prop) (w w' : World) : Prop := ∀ k, D k → w'.heap[k]? = w.heap[k]?
/-- the blocks from lo on, below B -/
def Rng (lo B : Nat) : Nat → Prop := fun k => lo ≤ k ∧ k < B
theorem Same.cell {D : Nat → Prop} {w w' : World} (h : Same D w w') {a : Addr} (h1 : D a.block) : w'.cell? a = w.cell? a := World.cell?_of_block (h _ h1)
theorem RowF.same {w w' : World} {D : Nat → Prop} {n : Nat} {xs : List Value} {V : Value} (h : RowF w D n xs V) (hs : Same D w w') : RowF w' D n xs V := by
  obtain ⟨A, c, h1, h2, h3, h4, h5⟩ := h
  refine ⟨A, c, h1, h2, h3, h4, fun j u hu => ?_⟩
  obtain ⟨ad, e, g1, g3⟩ := h5 j u hu
  exact ⟨ad, e, g1, by rw [hs.cell (by rw [addr_block]; exact g1)]; exact g3⟩
theorem RowF.more {w : World} {D D' : Nat → Prop} {n : Nat} {xs : List Value} {V : Value} (h : RowF w D n xs V) (h1 : ∀ k, D k → D' k) : RowF w D' n xs V := by
  obtain ⟨A, c, e1, e2, e3, e4, e5⟩ := h
  refine ⟨A, c, e1, e2, e3, e4, fun j u hu => ?_⟩
  obtain ⟨ad, e, g1, g3⟩ := e5 j u hu
  exact ⟨ad, e, h1 _ g1, g3⟩
theorem RowF.nothing (w : World) (D : Nat → Prop) : RowF w D 0 [] (.slice none 0 0) := ⟨none, 0, rfl, Nat.le_refl _, Nat.zero_le _, fun _ => rfl, fun j u h => by simp at h⟩
theorem RowF.own {w : World} {base : Nat} {e : TypeId} {size : Nat} {V : Value} {n : Nat} {xs : List Value} (h : w.ownsRow base e size V n xs) : RowF w (Rng base w.heap.size) n xs V := by
  have hb := h
  rcases h.2 with ⟨rfl, rfl⟩ | ⟨g, cap, cur, rfl, h1, hg, hn, hm, hs, ht⟩
  · have : xs = [] := List.eq_nil_of_length_eq_zero (by simpa using h.1)
    subst this
    exact RowF.nothing _ _
  · exact ⟨_, _, rfl, hn, hm, (fun e => by cases e), fun j u hu => ⟨_, rfl, ⟨h1, (hb.lt g rfl).2⟩, hb.cells rfl j u hu⟩⟩

def exC (e : Ex) (k : Value) : List Value := [.int .i64 e.op, .int .i64 e.num, .string (strN e.text), k, .int .i64 e.place]
def exsC (l : List Ex) (ks : List Value) : List Value := (List.zipWith exC l ks).flatten
/-- expressions lie in memory -/
inductive ExsC (w : World) (D : Nat → Prop) : List Ex → Value → Prop
  | mk (l : List Ex) (ks : List Value) (V : Value) (hk : ks.length = l.length) (h1 : RowF w D l.length (exsC l ks) V) (h2 : ∀ (i : Nat) (e : Ex) (k : Value), l[i]? = some e → ks[i]? = some k → ExsC w D e.kids k) : ExsC w D l V
theorem ExsC.same {w w' : World} {D : Nat → Prop} {l : List Ex} {V : Value} (h : ExsC w D l V) (hs : Same D w w') : ExsC w' D l V := by
  induction h with
  | mk l ks V hk h1 _ ih => exact .mk l ks V hk (h1.same hs) ih
theorem ExsC.more {w : World} {D D' : Nat → Prop} {l : List Ex} {V : Value} (h : ExsC w D l V) (g1 : ∀ k, D k → D' k) : ExsC w D' l V := by
  induction h with
  | mk l ks V hk h1 _ ih => exact .mk l ks V hk (h1.more g1) ih
theorem ExsC.nothing (w : World) (D : Nat → Prop) : ExsC w D [] (.slice none 0 0) := .mk [] [] _ rfl (RowF.nothing _ _) (fun i e k h => by simp at h)
/-- an expression, as a value -/
def ExV (w : World) (D : Nat → Prop) (e : Ex) (v : Value) : Prop := ∃ k, v = .agg (exC e k).toArray ∧ ExsC w D e.kids k
theorem ExV.same {w w' : World} {D : Nat → Prop} {e : Ex} {v : Value} (h : ExV w D e v) (hs : Same D w w') : ExV w' D e v := by
  obtain ⟨k, h1, h2⟩ := h
  exact ⟨k, h1, h2.same hs⟩
theorem ExV.more {w : World} {D D' : Nat → Prop} {e : Ex} {v : Value} (h : ExV w D e v) (g1 : ∀ k, D k → D' k) : ExV w D' e v := by
  obtain ⟨k, h1, h2⟩ := h
  exact ⟨k, h1, h2.more g1⟩
theorem exsC_snoc (l : List Ex) (ks : List Value) (hk : ks.length = l.length) (e : Ex) (k : Value) : exsC (l ++ [e]) (ks ++ [k]) = exsC l ks ++ exC e k := by
  simp [exsC, List.zipWith_append hk.symm]
/-- expressions of the call's own, and one more -/
theorem ExsC.snoc {w : World} {D : Nat → Prop} {l : List Ex} {ks : List Value} {V : Value} {e : Ex} {k : Value} (hk : ks.length = l.length) (h1 : RowF w D (l.length + 1) (exsC l ks ++ exC e k) V)
    (h2 : ∀ (i : Nat) (e : Ex) (k : Value), l[i]? = some e → ks[i]? = some k → ExsC w D e.kids k) (h3 : ExsC w D e.kids k) : ExsC w D (l ++ [e]) V := by
  refine .mk _ (ks ++ [k]) V (by simp [hk]) (by rw [exsC_snoc l ks hk]; simpa using h1) fun i x y hx hy => ?_
  by_cases hi : i < l.length
  · rw [List.getElem?_append_left hi] at hx
    rw [List.getElem?_append_left (by omega)] at hy
    exact h2 i x y hx hy
  · rw [List.getElem?_append_right (by omega)] at hx
    rw [List.getElem?_append_right (by omega)] at hy
    have : i - l.length = 0 := by
      have := (List.getElem?_eq_some_iff.1 hx).1
      simp at this
      omega
    rw [this] at hx
    rw [show i - ks.length = 0 by omega] at hy
    simp at hx hy
    subst hx hy
    exact h3

def stC (s : St) (e b f : Value) : List Value := [.int .i64 s.op, .string (strN s.text), e, b, f, .int .i64 s.place]
/-- the three slices of a statement -/
structure Three where
  e : Value
  b : Value
  f : Value
def stsC (l : List St) (ks : List Three) : List Value := (List.zipWith (fun s k => stC s k.e k.b k.f) l ks).flatten
/-- statements lie in memory -/
inductive StsC (w : World) (D : Nat → Prop) : List St → Value → Prop
  | mk (l : List St) (ks : List Three) (V : Value) (hk : ks.length = l.length) (h1 : RowF w D l.length (stsC l ks) V) (he : ∀ (i : Nat) (s : St) (k : Three), l[i]? = some s → ks[i]? = some k → ExsC w D s.exprs k.e)
      (hb : ∀ (i : Nat) (s : St) (k : Three), l[i]? = some s → ks[i]? = some k → StsC w D s.body k.b) (hf : ∀ (i : Nat) (s : St) (k : Three), l[i]? = some s → ks[i]? = some k → StsC w D s.els k.f) : StsC w D l V
theorem StsC.same {w w' : World} {D : Nat → Prop} {l : List St} {V : Value} (h : StsC w D l V) (hs : Same D w w') : StsC w' D l V := by
  induction h with
  | mk l ks V hk h1 he _ _ ib iF => exact .mk l ks V hk (h1.same hs) (fun i s k a b => (he i s k a b).same hs) ib iF
theorem StsC.more {w : World} {D D' : Nat → Prop} {l : List St} {V : Value} (h : StsC w D l V) (g1 : ∀ k, D k → D' k) : StsC w D' l V := by
  induction h with
  | mk l ks V hk h1 he _ _ ib iF => exact .mk l ks V hk (h1.more g1) (fun i s k a b => (he i s k a b).more g1) ib iF
theorem StsC.nothing (w : World) (D : Nat → Prop) : StsC w D [] (.slice none 0 0) := .mk [] [] _ rfl (RowF.nothing _ _) (fun i e k h => by simp at h) (fun i e k h => by simp at h) (fun i e k h => by simp at h)
/-- a statement, as a value -/
def StV (w : World) (D : Nat → Prop) (s : St) (v : Value) : Prop := ∃ k : Three, v = .agg (stC s k.e k.b k.f).toArray ∧ ExsC w D s.exprs k.e ∧ StsC w D s.body k.b ∧ StsC w D s.els k.f
theorem StV.same {w w' : World} {D : Nat → Prop} {e : St} {v : Value} (h : StV w D e v) (hs : Same D w w') : StV w' D e v := by
  obtain ⟨k, h1, h2, h3, h4⟩ := h
  exact ⟨k, h1, h2.same hs, h3.same hs, h4.same hs⟩
theorem StV.more {w : World} {D D' : Nat → Prop} {e : St} {v : Value} (h : StV w D e v) (g1 : ∀ k, D k → D' k) : StV w D' e v := by
  obtain ⟨k, h1, h2, h3, h4⟩ := h
  exact ⟨k, h1, h2.more g1, h3.more g1, h4.more g1⟩
theorem stsC_snoc (l : List St) (ks : List Three) (hk : ks.length = l.length) (s : St) (k : Three) : stsC (l ++ [s]) (ks ++ [k]) = stsC l ks ++ stC s k.e k.b k.f := by
  simp [stsC, List.zipWith_append hk.symm]
theorem snoc_get {α : Type} {l : List α} {x y : α} {i : Nat} (h : (l ++ [x])[i]? = some y) : l[i]? = some y ∨ (i = l.length ∧ y = x) := by
  by_cases hi : i < l.length
  · rw [List.getElem?_append_left hi] at h
    exact .inl h
  · rw [List.getElem?_append_right (by omega)] at h
    have := (List.getElem?_eq_some_iff.1 h).1
    simp at this
    have e : i - l.length = 0 := by omega
    rw [e] at h
    simp at h
    exact .inr ⟨by omega, h.symm⟩
theorem StsC.snoc {w : World} {D : Nat → Prop} {l : List St} {ks : List Three} {V : Value} {s : St} {k : Three} (hk : ks.length = l.length) (h1 : RowF w D (l.length + 1) (stsC l ks ++ stC s k.e k.b k.f) V)
    (he : ∀ (i : Nat) (s : St) (k : Three), l[i]? = some s → ks[i]? = some k → ExsC w D s.exprs k.e)
    (hb : ∀ (i : Nat) (s : St) (k : Three), l[i]? = some s → ks[i]? = some k → StsC w D s.body k.b) (hf : ∀ (i : Nat) (s : St) (k : Three), l[i]? = some s → ks[i]? = some k → StsC w D s.els k.f)
    (g1 : ExsC w D s.exprs k.e) (g2 : StsC w D s.body k.b) (g3 : StsC w D s.els k.f) : StsC w D (l ++ [s]) V := by
  refine .mk _ (ks ++ [k]) V (by simp [hk]) (by rw [stsC_snoc l ks hk]; simpa using h1) ?_ ?_ ?_
  all_goals
    intro i x y hx hy
    rcases snoc_get hx with hx | ⟨e1, rfl⟩ <;> rcases snoc_get hy with hy | ⟨e2, rfl⟩
    · first | exact he i x y hx hy | exact hb i x y hx hy | exact hf i x y hx hy
    · have := (List.getElem?_eq_some_iff.1 hx).1
      omega
    · have := (List.getElem?_eq_some_iff.1 hy).1
      omega
    · assumption

/-- parameters and functions -/
def paC (p : List Nat × Nat) : List Value := [.string (strN p.1), .int .i64 p.2]
def pasC (l : List (List Nat × Nat)) : List Value := l.flatMap paC
structure Two where
  p : Value
  b : Value
def fuC (f : Fu) (p b : Value) : List Value := [.string (strN f.name), p, .int .i64 f.result, b, .int .i64 f.place]
def fusC (l : List Fu) (ks : List Two) : List Value := (List.zipWith (fun s k => fuC s k.p k.b) l ks).flatten
/-- what a function's slices are -/
def FuK (w : World) (D : Nat → Prop) (f : Fu) (k : Two) : Prop := RowF w D f.params.length (pasC f.params) k.p ∧ StsC w D f.body k.b
theorem FuK.same {w w' : World} {D : Nat → Prop} {f : Fu} {k : Two} (h : FuK w D f k) (hs : Same D w w') : FuK w' D f k := ⟨h.1.same hs, h.2.same hs⟩
theorem FuK.more {w : World} {D D' : Nat → Prop} {f : Fu} {k : Two} (h : FuK w D f k) (g1 : ∀ k, D k → D' k) : FuK w D' f k := ⟨h.1.more g1, h.2.more g1⟩
/-- functions lie in memory -/
def FusC (w : World) (D : Nat → Prop) (l : List Fu) (V : Value) : Prop :=
  ∃ ks : List Two, ks.length = l.length ∧ RowF w D l.length (fusC l ks) V ∧ ∀ (i : Nat) (f : Fu) (k : Two), l[i]? = some f → ks[i]? = some k → FuK w D f k
theorem FusC.same {w w' : World} {D : Nat → Prop} {l : List Fu} {V : Value} (h : FusC w D l V) (hs : Same D w w') : FusC w' D l V := by
  obtain ⟨ks, h1, h2, h3⟩ := h
  exact ⟨ks, h1, h2.same hs, fun i f k a b => (h3 i f k a b).same hs⟩
theorem FusC.more {w : World} {D D' : Nat → Prop} {l : List Fu} {V : Value} (h : FusC w D l V) (g1 : ∀ k, D k → D' k) : FusC w D' l V := by
  obtain ⟨ks, h1, h2, h3⟩ := h
  exact ⟨ks, h1, h2.more g1, fun i f k a b => (h3 i f k a b).more g1⟩
theorem FusC.nothing (w : World) (D : Nat → Prop) : FusC w D [] (.slice none 0 0) := ⟨[], rfl, RowF.nothing _ _, fun i e k h => by simp at h⟩
/-- a function, as a value -/
def FuV (w : World) (D : Nat → Prop) (f : Fu) (v : Value) : Prop := ∃ k : Two, v = .agg (fuC f k.p k.b).toArray ∧ FuK w D f k
theorem fusC_snoc (l : List Fu) (ks : List Two) (hk : ks.length = l.length) (s : Fu) (k : Two) : fusC (l ++ [s]) (ks ++ [k]) = fusC l ks ++ fuC s k.p k.b := by
  simp [fusC, List.zipWith_append hk.symm]
end Go.Proofs.YtoicncfpoklanaaDoor
