/- Words for memory: rows, codes and modules as they lie there, and what moves a reader's block alone; nothing of the program. Conditions: those in each theorem. -/
import Derived.Test.YtecjkmemihmkcaaDoorZa
import Derived.Test.YtecjkmemihmkcaaDoorV
import Derived.Deep.MidRow
namespace Go.Proofs.YtecjkmemihmkcaaDoor
open Go.RowKit
set_option linter.unusedSimpArgs false
set_option linter.unusedVariables false

/-- all that was there stays but block R -/
def Moves (R : Nat) (w w' : World) : Prop := w.grownBy w' (some R)
theorem Moves.refl (R : Nat) (w : World) : Moves R w w := World.grownBy.refl _ _
theorem Moves.trans {R : Nat} {a b c : World} (h : Moves R a b) (k : Moves R b c) : Moves R a c :=
  ⟨k.os.trans h.os, k.tape.trans h.tape, k.output.trans h.output, Nat.le_trans h.size k.size, fun i hi hr => (k.block i (Nat.lt_of_lt_of_le hi h.size) hr).trans (h.block i hi hr)⟩
theorem Moves.low {R B : Nat} {a b c : World} (h : Moves R a b) (k : Below B b c) (hB : a.heap.size ≤ B) : Moves R a c :=
  ⟨k.os.trans h.os, k.tape.trans h.tape, k.output.trans h.output, Nat.le_trans h.size k.size, fun i hi hr => (k.block i (by omega)).trans (h.block i hi hr)⟩
theorem Moves.of_below {R B : Nat} {b c : World} (k : Below B b c) (hB : b.heap.size ≤ B) : Moves R b c := (Moves.refl R b).low k hB
theorem Moves.at {R : Nat} {w w' : World} (h : Moves R w w') {k : Nat} (h1 : k < w.heap.size) (h2 : k ≠ R) : w'.heap[k]? = w.heap[k]? := h.block k h1 (by intro e; injection e; omega)
theorem Moves.below {R B : Nat} {w w' : World} (h : Moves R w w') (h1 : B ≤ R) (h2 : B ≤ w.heap.size) : Below B w w' :=
  ⟨h.os, h.tape, h.output, h.size, fun k hk => h.at (by omega) (by omega)⟩
/-- an append onto a row that was made later -/
theorem Moves.grown {R : Nat} {a b c : World} (h : Moves R a b) {o : Option Nat} (k : b.grownBy c o) (ho : ∀ g, o = some g → a.heap.size ≤ g) : Moves R a c :=
  ⟨k.os.trans h.os, k.tape.trans h.tape, k.output.trans h.output, Nat.le_trans h.size k.size, fun i hi hr => (k.block i (Nat.lt_of_lt_of_le hi h.size) (fun e => by have := ho i e.symm; omega)).trans (h.block i hi hr)⟩
theorem own_moves {w w' : World} {base R : Nat} {e : TypeId} {size : Nat} {v : Value} {n : Nat} {xs : List Value} (h : w.ownsRow base e size v n xs) (hm : Moves R w w') (hR : R < base) : w'.ownsRow base e size v n xs := by
  refine ⟨h.1, ?_⟩
  rcases h.2 with h' | ⟨g, cap, cur, rfl, h1, hg, rest⟩
  · exact .inl h'
  · refine .inr ⟨g, cap, cur, rfl, h1, ?_, rest⟩
    rw [hm.at (h.lt g rfl).2 (by omega)]
    exact hg

/-- a row of n things, whose cells are xs, below block B -/
def RowL (w : World) (B n : Nat) (xs : List Value) (V : Value) : Prop := ∃ A c, V = .slice A n c ∧ n ≤ c ∧ c ≤ maxLen ∧ Lies w B A c xs
theorem RowL.below {w w' : World} {B n : Nat} {xs : List Value} {V : Value} (h : RowL w B n xs V) (hb : Below B w w') : RowL w' B n xs V := by
  obtain ⟨A, c, h1, h2, h3, h4⟩ := h
  exact ⟨A, c, h1, h2, h3, h4.below hb⟩
theorem RowL.more {w : World} {B B' n : Nat} {xs : List Value} {V : Value} (h : RowL w B n xs V) (hB : B ≤ B') : RowL w B' n xs V := by
  obtain ⟨A, c, h1, h2, h3, h4⟩ := h
  exact ⟨A, c, h1, h2, h3, h4.more hB⟩
theorem RowL.nothing (w : World) (B : Nat) : RowL w B 0 [] (.slice none 0 0) := ⟨none, 0, rfl, Nat.le_refl _, Nat.zero_le _, Lies.nothing _ _⟩
theorem RowL.is {w : World} {B n : Nat} {xs : List Value} {V : Value} (h : RowL w B n xs V) : ∃ A c, V = .slice A n c := ⟨_, _, h.choose_spec.choose_spec.1⟩
/-- the same in a block of type T -/
def RowT (w : World) (T : TypeId) (n : Nat) (xs : List Value) (V : Value) : Prop :=
  ∃ A c, V = .slice A n c ∧ n ≤ c ∧ c ≤ maxLen ∧ (A = none → c = 0) ∧ ∀ (j : Nat) (u : Value), xs[j]? = some u → ∃ b o cs fr, A = some ⟨b, o, none⟩ ∧ w.heap[b]? = some (.cells cs T fr) ∧ cs[o + j]? = some u
/-- the blocks of type T are as they were -/
def KeptT (T : TypeId) (w w' : World) : Prop := ∀ (b : Nat) (cs : Array Value) (fr : Nat × Nat), w.heap[b]? = some (.cells cs T fr) → w'.heap[b]? = some (.cells cs T fr)
theorem RowT.kept {w w' : World} {T : TypeId} {n : Nat} {xs : List Value} {V : Value} (h : RowT w T n xs V) (hk : KeptT T w w') : RowT w' T n xs V := by
  obtain ⟨A, c, h1, h2, h3, h4, h5⟩ := h
  refine ⟨A, c, h1, h2, h3, h4, fun j u hu => ?_⟩
  obtain ⟨b, o, cs, fr, g1, g2, g3⟩ := h5 j u hu
  exact ⟨b, o, cs, fr, g1, hk b cs fr g2, g3⟩
theorem RowT.is {w : World} {T : TypeId} {n : Nat} {xs : List Value} {V : Value} (h : RowT w T n xs V) : ∃ A c, V = .slice A n c := ⟨_, _, h.choose_spec.choose_spec.1⟩
theorem RowT.nothing (w : World) (T : TypeId) : RowT w T 0 [] (.slice none 0 0) := ⟨none, 0, rfl, Nat.le_refl _, Nat.zero_le _, fun _ => rfl, fun j u h => by simp at h⟩
theorem lt_of_some {w : World} {b : Nat} {o : Obj} (h : w.heap[b]? = some o) : b < w.heap.size := (Array.getElem?_eq_some_iff.1 h).1
theorem RowT.lies {w : World} {T : TypeId} {n : Nat} {xs : List Value} {V : Value} (h : RowT w T n xs V) : RowL w w.heap.size n xs V := by
  obtain ⟨A, c, h1, h2, h3, h4, h5⟩ := h
  refine ⟨A, c, h1, h2, h3, h4, fun j u hu => ?_⟩
  obtain ⟨b, o, cs, fr, g1, g2, g3⟩ := h5 j u hu
  refine ⟨_, g1, lt_of_some g2, ?_⟩
  rw [Addr.add_lit, cell_of_row _ _ _ _ _ _ g2]
  exact g3
theorem RowT.own {w : World} {base : Nat} {T : TypeId} {size : Nat} {V : Value} {n : Nat} {xs : List Value} (h : w.ownsRow base T size V n xs) : RowT w T n xs V := by
  rcases h.2 with ⟨rfl, rfl⟩ | ⟨g, cap, cur, rfl, h1, hg, hn, hm, hs, ht⟩
  · have : xs = [] := List.eq_nil_of_length_eq_zero (by simpa using h.1)
    subst this
    exact RowT.nothing _ _
  · refine ⟨_, _, rfl, hn, hm, (fun e => by cases e), fun j u hu => ⟨g, 0, cur, (0, 0), rfl, hg, ?_⟩⟩
    subst ht
    rw [Nat.zero_add]
    rw [List.getElem?_take] at hu
    split at hu
    · simpa using hu
    · cases hu
theorem KeptT.moves {T : TypeId} {w w' : World} {R : Nat} {T' : TypeId} {cs : Array Value} {fr : Nat × Nat} (hm : Moves R w w') (hR : w.heap[R]? = some (.cells cs T' fr)) (hT : T ≠ T') : KeptT T w w' := by
  intro b cs' fr' hb
  rw [hm.at (lt_of_some hb) (by rintro rfl; rw [hR] at hb; injection hb with e; injection e with _ e _; exact hT e.symm)]
  exact hb
theorem KeptT.grown {T T' : TypeId} {w w' : World} {base size n : Nat} {V : Value} {xs : List Value} (ho : w.ownsRow base T' size V n xs) (hg : w.grownBy w' V.ownBlock) (hT : T ≠ T') : KeptT T w w' := by
  intro b cs fr hb
  rw [hg.block b (lt_of_some hb) ?_]
  · exact hb
  · intro e
    rcases ho.2 with ⟨rfl, _⟩ | ⟨g, cap, cur, rfl, _, hg', _⟩
    · cases e
    · injection e with e
      subst e
      change w.heap[b]? = _ at hg'
      rw [hg'] at hb
      injection hb with e
      injection e with _ e _
      exact hT e.symm
theorem KeptT.alloc (T : TypeId) (w : World) (o : Obj) : KeptT T w (w.alloc o) := fun b cs fr hb => by rw [Below.heap_alloc w o b (lt_of_some hb)]; exact hb
theorem KeptT.below {T : TypeId} {B : Nat} {w w' : World} (h : Below B w w') (hB : w.heap.size ≤ B) : KeptT T w w' := fun b cs fr hb => by rw [h.block b (by have := lt_of_some hb; omega)]; exact hb
theorem KeptT.trans {T : TypeId} {a b c : World} (h : KeptT T a b) (k : KeptT T b c) : KeptT T a c := fun i cs fr hi => k i cs fr (h i cs fr hi)

/-- a row that is not empty lies in one block -/
theorem lies_flat {w : World} {B : Nat} {A : Option Addr} {c : Nat} {xs : List Value} (h : Lies w B A c xs) {i : Nat} {x : Value} (hx : xs[i]? = some x) :
    ∃ b o, A = some ⟨b, o, none⟩ ∧ b < B ∧ ∀ j u, xs[j]? = some u → w.cell? ⟨b, o + j, none⟩ = some u := by
  have hl : i < xs.length := (List.getElem?_eq_some_iff.1 hx).1
  obtain ⟨ad, rfl, hB, hc⟩ := h.2 0 _ (List.getElem?_eq_getElem (by omega))
  obtain ⟨b, o, s⟩ := ad
  obtain rfl : s = none := World.cell?_spot hc
  refine ⟨b, o, rfl, hB, fun j u hu => ?_⟩
  obtain ⟨ad', e, _, hc'⟩ := h.2 j u hu
  injection e with e
  subst e
  rw [Addr.add_mid] at hc'
  exact hc'
/-- the cells of types, of instructions, of a code -/
def tysV (ts : List Int) : List Value := ts.map (Value.int .i64)
def insV (is : List (Int × Int)) : List Value := is.flatMap fun i => [.int .i64 i.1, .int .i64 i.2]
def coC (c : Cd) (P I : Value) : List Value := [.string (strOfNums c.name), P, .int .i64 c.result, .int .i64 c.slots, I]
theorem tysV_snoc (ts : List Int) (t : Int) : tysV (ts ++ [t]) = tysV ts ++ [.int .i64 t] := by simp [tysV]
theorem insV_snoc (is : List (Int × Int)) (i : Int × Int) : insV (is ++ [i]) = insV is ++ [.int .i64 i.1, .int .i64 i.2] := by simp [insV]
theorem tysV_len (ts : List Int) : (tysV ts).length = ts.length := by simp [tysV]
theorem insV_len : ∀ is : List (Int × Int), (insV is).length = is.length * 2
  | [] => rfl
  | i :: is => by
    have := insV_len is
    simp only [insV, List.flatMap_cons, List.length_append, List.length_cons, List.length_nil] at this ⊢
    omega
theorem tysV_at {ts : List Int} {i : Nat} {t : Int} (h : ts[i]? = some t) : (tysV ts)[i]? = some (.int .i64 t) := by simp [tysV, h]
theorem insV_at : ∀ {is : List (Int × Int)} {i : Nat} {x : Int × Int}, is[i]? = some x → (insV is)[i * 2]? = some (.int .i64 x.1) ∧ (insV is)[i * 2 + 1]? = some (.int .i64 x.2)
  | [], i, x, h => by simp at h
  | y :: is, 0, x, h => by
    simp at h
    subst h
    exact ⟨rfl, rfl⟩
  | y :: is, i + 1, x, h => by
    have := insV_at (is := is) (i := i) (x := x) (by simpa using h)
    rw [show (i + 1) * 2 = i * 2 + 1 + 1 by omega]
    simpa [insV] using this
/-- the cells vs are codes, whose rows F and G speak of -/
inductive CosC (F G : Nat → List Value → Value → Prop) : List Cd → List Value → Prop
  | nil : CosC F G [] []
  | cons {c : Cd} {l : List Cd} {P I : Value} {vs : List Value} (h1 : F c.params.length (tysV c.params) P) (h2 : G c.instrs.length (insV c.instrs) I) (h3 : CosC F G l vs) : CosC F G (c :: l) (coC c P I ++ vs)
theorem CosC.mono {F G F' G' : Nat → List Value → Value → Prop} (hF : ∀ n xs V, F n xs V → F' n xs V) (hG : ∀ n xs V, G n xs V → G' n xs V) {l : List Cd} {vs : List Value} (h : CosC F G l vs) : CosC F' G' l vs := by
  induction h with
  | nil => exact .nil
  | cons h1 h2 _ ih => exact .cons (hF _ _ _ h1) (hG _ _ _ h2) ih
theorem CosC.len {F G : Nat → List Value → Value → Prop} {l : List Cd} {vs : List Value} (h : CosC F G l vs) : vs.length = l.length * 5 := by
  induction h with
  | nil => rfl
  | cons h1 h2 _ ih => rw [List.length_append, ih]; simp only [coC, List.length_cons, List.length_nil]; omega
theorem CosC.append {F G : Nat → List Value → Value → Prop} {l m : List Cd} {vs us : List Value} (h : CosC F G l vs) (h' : CosC F G m us) : CosC F G (l ++ m) (vs ++ us) := by
  induction h with
  | nil => exact h'
  | cons h1 h2 _ ih =>
    rw [List.append_assoc]
    exact .cons h1 h2 ih
theorem CosC.snoc {F G : Nat → List Value → Value → Prop} {l : List Cd} {vs : List Value} {c : Cd} {P I : Value} (h : CosC F G l vs) (h1 : F c.params.length (tysV c.params) P) (h2 : G c.instrs.length (insV c.instrs) I) : CosC F G (l ++ [c]) (vs ++ coC c P I) := by
  have := h.append (.cons h1 h2 .nil)
  rwa [List.append_nil] at this
theorem CosC.get {F G : Nat → List Value → Value → Prop} {l : List Cd} {vs : List Value} (h : CosC F G l vs) : ∀ {i : Nat} {c : Cd}, l[i]? = some c →
    ∃ P I, F c.params.length (tysV c.params) P ∧ G c.instrs.length (insV c.instrs) I ∧ ∀ (j : Nat) (u : Value), (coC c P I)[j]? = some u → vs[i * 5 + j]? = some u := by
  induction h with
  | nil => intro i c h; simp at h
  | @cons d l P I vs h1 h2 _ ih =>
    intro i c hc
    cases i with
    | zero =>
      simp at hc
      subst hc
      refine ⟨P, I, h1, h2, fun j u hu => ?_⟩
      have := (List.getElem?_eq_some_iff.1 hu).1
      rw [Nat.zero_mul, Nat.zero_add, List.getElem?_append_left this]
      exact hu
    | succ i =>
      obtain ⟨P', I', g1, g2, g3⟩ := ih (i := i) (c := c) (by simpa using hc)
      refine ⟨P', I', g1, g2, fun j u hu => ?_⟩
      rw [List.getElem?_append_right (by simp [coC]; omega)]
      rw [← g3 j u hu]
      congr 1
      simp [coC]
      omega
/-- texts that lie, as a value -/
def GridV (w : World) (B : Nat) (ls : List (List Int)) (T : Value) : Prop := ∃ A c, T = .slice A ls.length c ∧ ls.length ≤ c ∧ c ≤ maxLen ∧ Grid w B A c ls
theorem GridV.below {w w' : World} {B : Nat} {ls : List (List Int)} {T : Value} (h : GridV w B ls T) (hb : Below B w w') : GridV w' B ls T := by
  obtain ⟨A, c, h1, h2, h3, h4⟩ := h
  exact ⟨A, c, h1, h2, h3, h4.below hb⟩
theorem GridV.more {w : World} {B B' : Nat} {ls : List (List Int)} {T : Value} (h : GridV w B ls T) (hB : B ≤ B') : GridV w B' ls T := by
  obtain ⟨A, c, h1, h2, h3, h4⟩ := h
  exact ⟨A, c, h1, h2, h3, h4.more hB⟩
/-- texts in blocks of their types -/
def GridT (w : World) (ls : List (List Int)) (T : Value) : Prop := ∃ vs, vs.length = ls.length ∧ RowT w 26 ls.length vs T ∧ ∀ (j : Nat) (x : Value) (l : List Int), vs[j]? = some x → ls[j]? = some l → RowT w 5 l.length (cellsOf l) x
theorem GridT.kept {w w' : World} {ls : List (List Int)} {T : Value} (h : GridT w ls T) (h1 : KeptT 26 w w') (h2 : KeptT 5 w w') : GridT w' ls T := by
  obtain ⟨vs, g0, g1, g2⟩ := h
  exact ⟨vs, g0, g1.kept h1, fun j x l hx hl => (g2 j x l hx hl).kept h2⟩
theorem GridT.own {w : World} {base : Nat} {ls : List (List Int)} {T : Value} (h : GridO w base T ls) : GridT w ls T := by
  obtain ⟨vs, h1, h2, h3⟩ := h
  exact ⟨vs, h1, RowT.own h2, fun j x l hx hl => RowT.own (h3 j x l hx hl)⟩
theorem GridT.lies {w : World} {ls : List (List Int)} {T : Value} (h : GridT w ls T) : GridV w w.heap.size ls T := by
  obtain ⟨vs, h0, h1, h2⟩ := h
  obtain ⟨A, c, rfl, g1, g2, g3⟩ := h1.lies
  refine ⟨A, c, rfl, g1, g2, g3.1, fun i l hl => ?_⟩
  have hi : i < ls.length := (List.getElem?_eq_some_iff.1 hl).1
  obtain ⟨x, hx⟩ : ∃ x, vs[i]? = some x := ⟨_, List.getElem?_eq_getElem (by omega)⟩
  obtain ⟨ad, rfl, hB, hc⟩ := g3.2 i x hx
  obtain ⟨A', c', rfl, k1, k2, k3⟩ := (h2 i x l hx hl).lies
  exact ⟨ad, A', c', rfl, hB, hc, k1, k2, k3⟩
/-- codes that lie, as a value -/
def CodesV (w : World) (B : Nat) (l : List Cd) (V : Value) : Prop := ∃ A c vs, V = .slice A l.length c ∧ l.length ≤ c ∧ c ≤ maxLen ∧ Lies w B A c vs ∧ CosC (RowL w B) (RowL w B) l vs
theorem CodesV.below {w w' : World} {B : Nat} {l : List Cd} {V : Value} (h : CodesV w B l V) (hb : Below B w w') : CodesV w' B l V := by
  obtain ⟨A, c, vs, h1, h2, h3, h4, h5⟩ := h
  exact ⟨A, c, vs, h1, h2, h3, h4.below hb, h5.mono (fun _ _ _ h => h.below hb) (fun _ _ _ h => h.below hb)⟩
theorem CodesV.more {w : World} {B B' : Nat} {l : List Cd} {V : Value} (h : CodesV w B l V) (hB : B ≤ B') : CodesV w B' l V := by
  obtain ⟨A, c, vs, h1, h2, h3, h4, h5⟩ := h
  exact ⟨A, c, vs, h1, h2, h3, h4.more hB, h5.mono (fun _ _ _ h => h.more hB) (fun _ _ _ h => h.more hB)⟩
theorem CodesV.nothing (w : World) (B : Nat) : CodesV w B [] (.slice none 0 0) := ⟨none, 0, [], rfl, Nat.le_refl _, Nat.zero_le _, Lies.nothing _ _, .nil⟩
theorem GridV.nothing (w : World) (B : Nat) : GridV w B [] (.slice none 0 0) := ⟨none, 0, rfl, Nat.le_refl _, Nat.zero_le _, Grid.nothing _ _⟩
/-- a module that lies, as a value -/
def ModV (w : World) (B : Nat) (m : Md) (V : Value) : Prop := ∃ C T, V = .agg #[C, T] ∧ CodesV w B m.codes C ∧ GridV w B m.texts T
theorem ModV.below {w w' : World} {B : Nat} {m : Md} {V : Value} (h : ModV w B m V) (hb : Below B w w') : ModV w' B m V := by
  obtain ⟨C, T, h1, h2, h3⟩ := h
  exact ⟨C, T, h1, h2.below hb, h3.below hb⟩
theorem ModV.more {w : World} {B B' : Nat} {m : Md} {V : Value} (h : ModV w B m V) (hB : B ≤ B') : ModV w B' m V := by
  obtain ⟨C, T, h1, h2, h3⟩ := h
  exact ⟨C, T, h1, h2.more hB, h3.more hB⟩
/-- a code that lies, as a value -/
def CodeV (w : World) (B : Nat) (c : Cd) (V : Value) : Prop := ∃ P I, V = .agg (coC c P I).toArray ∧ RowL w B c.params.length (tysV c.params) P ∧ RowL w B c.instrs.length (insV c.instrs) I

end Go.Proofs.YtecjkmemihmkcaaDoor
