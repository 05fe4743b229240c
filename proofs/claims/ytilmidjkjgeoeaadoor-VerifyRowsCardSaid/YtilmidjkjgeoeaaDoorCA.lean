/- Whether a module is right, as the code and the document say; how much it is; signs; modules in memory. Conditions: those in each theorem. -/
import Derived.WalkKit
import Derived.Laws.BitsAllLaws
import Derived.Laws.BytesArg
import Derived.Laws.AppendOwnNone
import Derived.WalkSpells
import Derived.WalkLawsBesides
import Derived.Lib.Hide
import Derived.Outline
import Derived.Deep.QuietTactic
import Derived.BigQuiet
import Derived.Deep.MidRow
import Derived.Laws.IdiomStrings
import Derived.Deep.Slices
import Derived.Maps.AppendAt
import Derived.Deep.RegionHeld3
import Derived.Deep.CutBlock
import Derived.Lib.Bytes
import Derived.Test.YtilmidjkjgeoeaaDoorRows
namespace Go.Proofs.YtilmidjkjgeoeaaDoor
open Go.RowKit
set_option maxRecDepth 100000
set_option linter.unusedVariables false
set_option linter.unusedSimpArgs false
set_option linter.unusedSectionVars false
/-- the cells of a list of bytes -/
abbrev cellsOf (l : List Int) : List Value := l.map (Value.int .u8)
theorem take_next {α : Type} {ls : List α} {k : Nat} {l : α} (h : ls[k]? = some l) : ls.take (k + 1) = ls.take k ++ [l] := by
  rw [List.take_add_one, h]; rfl
/-- the number that stands in bytes, the most significant first -/
def val (l : List Int) : Int := l.foldl (fun a b => a * 256 + b) 0
/-- each of them is a byte -/
def Byt (l : List Int) : Prop := ∀ b ∈ l, 0 ≤ b ∧ b < 256
theorem Byt.nil : Byt [] := by intro b hb; cases hb
theorem Byt.append {a b : List Int} (ha : Byt a) (hb : Byt b) : Byt (a ++ b) := by
  intro x hx
  rcases List.mem_append.1 hx with h | h
  · exact ha x h
  · exact hb x h
theorem Byt.sub {a b : List Int} (hb : Byt b) (h : ∀ x ∈ a, x ∈ b) : Byt a := fun x hx => hb x (h x hx)
theorem addr_block (a : Addr) (n : Nat) : (a.add n).block = a.block := by unfold Addr.add; split <;> rfl
/-- the slice at A, of capacity c, has the elements l (one cell each), in a block below B -/
def Lies (w : World) (B : Nat) (A : Option Addr) (c : Nat) (l : List Value) : Prop :=
  (A = none → c = 0) ∧ ∀ j u, l[j]? = some u → ∃ ad, A = some ad ∧ ad.block < B ∧ w.cell? (ad.add j) = some u
theorem Lies.nothing (w : World) (B : Nat) : Lies w B none 0 [] := ⟨fun _ => rfl, fun j u h => by simp at h⟩
theorem Lies.below {w w' : World} {B : Nat} {A : Option Addr} {c : Nat} {l : List Value} (h : Lies w B A c l) (hb : Below B w w') : Lies w' B A c l :=
  ⟨h.1, fun j u hu => by
    obtain ⟨ad, e, hB, hc⟩ := h.2 j u hu
    exact ⟨ad, e, hB, by rw [hb.cell (by rw [addr_block]; exact hB)]; exact hc⟩⟩
theorem Lies.more {w : World} {B B' : Nat} {A : Option Addr} {c : Nat} {l : List Value} (h : Lies w B A c l) (hB : B ≤ B') : Lies w B' A c l :=
  ⟨h.1, fun j u hu => by
    obtain ⟨ad, e, hb, hc⟩ := h.2 j u hu
    exact ⟨ad, e, by omega, hc⟩⟩
theorem Lies.none_nil {w : World} {B : Nat} {c : Nat} {l : List Value} (h : Lies w B none c l) : l = [] ∧ c = 0 := by
  refine ⟨?_, h.1 rfl⟩
  cases l with
  | nil => rfl
  | cons x r =>
    obtain ⟨ad, e, _⟩ := h.2 0 x rfl
    cases e
/-- what a call owns, as a slice that lies -/
theorem own_lies {w : World} {base : Nat} {e : TypeId} {v : Value} {n : Nat} {xs : List Value} (h : w.ownsRow base e 1 v n xs) :
    ∃ A c, v = .slice A n c ∧ n ≤ c ∧ c ≤ maxLen ∧ Lies w w.heap.size A c xs := by
  rcases h.2 with ⟨rfl, rfl⟩ | ⟨g, cap, cur, rfl, hb, hg, hn, hm, hs, ht⟩
  · have : xs = [] := List.eq_nil_of_length_eq_zero (by simpa using h.1)
    subst this
    exact ⟨none, 0, rfl, Nat.le_refl _, Nat.zero_le _, Lies.nothing _ _⟩
  · exact ⟨_, _, rfl, hn, hm, (fun e => by cases e), fun j u hu => ⟨_, rfl, (h.lt g rfl).2, h.cells rfl j u hu⟩⟩
/-- the slice of byte strings at A, of capacity c, reads as ls, all of it below B -/
def Grid (w : World) (B : Nat) (A : Option Addr) (c : Nat) (ls : List (List Int)) : Prop :=
  (A = none → c = 0) ∧ ∀ i l, ls[i]? = some l → ∃ ad A' c', A = some ad ∧ ad.block < B ∧ w.cell? (ad.add i) = some (.slice A' l.length c') ∧ l.length ≤ c' ∧ c' ≤ maxLen ∧ Lies w B A' c' (cellsOf l)
theorem Grid.nothing (w : World) (B : Nat) : Grid w B none 0 [] := ⟨fun _ => rfl, fun j u h => by simp at h⟩
theorem Grid.below {w w' : World} {B : Nat} {A : Option Addr} {c : Nat} {ls : List (List Int)} (h : Grid w B A c ls) (hb : Below B w w') : Grid w' B A c ls :=
  ⟨h.1, fun i l hl => by
    obtain ⟨ad, A', c', e, hB, hc, h1, h2, h3⟩ := h.2 i l hl
    exact ⟨ad, A', c', e, hB, by rw [hb.cell (by rw [addr_block]; exact hB)]; exact hc, h1, h2, h3.below hb⟩⟩
theorem Grid.more {w : World} {B B' : Nat} {A : Option Addr} {c : Nat} {ls : List (List Int)} (h : Grid w B A c ls) (hB : B ≤ B') : Grid w B' A c ls :=
  ⟨h.1, fun i l hl => by
    obtain ⟨ad, A', c', e, hb, hc, h1, h2, h3⟩ := h.2 i l hl
    exact ⟨ad, A', c', e, by omega, hc, h1, h2, h3.more hB⟩⟩
/-- the length that stands at p -/
def cnt (l : List Int) (p : Int) : Nat := (val ((l.drop p.toNat).take 4)).toNat
/-- the byte string that stands at p -/
def bytesA (l : List Int) (p : Int) : List Int := (l.drop (p.toNat + 4)).take (cnt l p)
/-- the offset behind it -/
def bytesB (l : List Int) (p : Int) : Int := p + 4 + cnt l p
theorem own_below {w w' : World} {base : Nat} {e : TypeId} {size : Nat} {v : Value} {n : Nat} {xs : List Value} {B : Nat} (h : w.ownsRow base e size v n xs) (hb : Below B w w') (hB : w.heap.size ≤ B) : w'.ownsRow base e size v n xs := by
  refine ⟨h.1, ?_⟩
  rcases h.2 with h' | ⟨g, cap, cur, rfl, h1, hg, rest⟩
  · exact .inl h'
  · refine .inr ⟨g, cap, cur, rfl, h1, ?_, rest⟩
    rw [hb.block g (Nat.lt_of_lt_of_le (h.lt g rfl).2 hB)]
    exact hg
/-- where the k-th byte string begins -/
def offs (l : List Int) (q : Int) : Nat → Int
  | 0 => q
  | k + 1 => bytesB l (offs l q k)
/-- what the loop of 'Row' keeps -/
def RowRel (w : World) (l : List Int) (q : Int) (n k : Nat) (wr : World) : Prop :=
  ∃ vs : List Value, vs.length = k ∧ wr.ownsRow w.heap.size 46 1 (.slice (some ⟨w.heap.size, 0, none⟩) n n) n (vs ++ List.replicate (n - k) (.slice none 0 0)) ∧ Below w.heap.size w wr ∧
    ∀ j v, vs[j]? = some v → ∃ A c, v = .slice A (bytesA l (offs l q j)).length c ∧ (bytesA l (offs l q j)).length ≤ c ∧ c ≤ maxLen ∧ Lies wr wr.heap.size A c (cellsOf (bytesA l (offs l q j)))
theorem RowRel.slices {w : World} {l : List Int} {q : Int} {n k : Nat} {vs : List Value}
    (h : ∀ (j : Nat) (v : Value), vs[j]? = some v → ∃ (A : Option Addr) (c : Nat), v = Value.slice A (bytesA l (offs l q j)).length c ∧ (bytesA l (offs l q j)).length ≤ c ∧ c ≤ maxLen ∧ Lies w w.heap.size A c (cellsOf (bytesA l (offs l q j)))) :
    ∀ x ∈ vs ++ List.replicate (n - k) (Value.slice none 0 0), ∃ A m c, x = Value.slice A m c := by
  intro x hx
  rcases List.mem_append.1 hx with hx | hx
  · obtain ⟨j, hj⟩ := List.getElem?_of_mem hx
    obtain ⟨A, c, e, _⟩ := h j x hj
    exact ⟨A, _, c, e⟩
  · exact ⟨_, _, _, List.eq_of_mem_replicate hx⟩
theorem RowRel.cell {w wr w2 : World} {l : List Int} {q : Int} {n k : Nat} (h : RowRel w l q n k wr) (hb : Below wr.heap.size wr w2) (hk : k < n) :
    w2.cell? ⟨w.heap.size, k, none⟩ = some (.slice none 0 0) ∧ w2.frozen? ⟨w.heap.size, k, none⟩ = false := by
  obtain ⟨vs, hv, ho, _⟩ := h
  have ho2 := own_below ho hb (Nat.le_refl _)
  refine ⟨?_, ho2.frozenAt k⟩
  rw [ho2.cellAt k (by omega)]
  subst hv
  rw [List.getElem?_append_right (Nat.le_refl _), Nat.sub_self, List.getElem?_replicate, if_pos (by omega)]
theorem below_drewN {B : Nat} {a w : World} (h : Below B a w) (n : Nat) : Below B a (w.drewN n) := ⟨h.os, h.tape, h.output, h.size, h.block⟩
theorem own_mono {w : World} {base base' : Nat} {e : TypeId} {size : Nat} {v : Value} {n : Nat} {xs : List Value} (h : w.ownsRow base e size v n xs) (hb : base' ≤ base) : w.ownsRow base' e size v n xs := by
  refine ⟨h.1, ?_⟩
  rcases h.2 with h' | ⟨g, cap, cur, hv, h1, rest⟩
  · exact .inl h'
  · exact .inr ⟨g, cap, cur, hv, by omega, rest⟩
/-- rows of bytes and rows of slices are not one -/
theorem own_ne {w : World} {b b' n n' : Nat} {x v : Value} {xs ys : List Value} (h5 : w.ownsRow b 5 1 x n xs) (h22 : w.ownsRow b' 46 1 v n' ys) : x.ownBlock = none ∨ x.ownBlock ≠ v.ownBlock := by
  rcases h5.2 with ⟨rfl, _⟩ | ⟨g, cap, cur, rfl, _, hg, _⟩
  · exact .inl rfl
  · refine .inr fun e => ?_
    rcases h22.2 with ⟨rfl, _⟩ | ⟨g', cap', cur', rfl, _, hg', _⟩
    · cases e
    · have : g = g' := by simpa [Value.ownBlock] using e
      subst this
      rw [hg] at hg'
      injection hg' with hg'
      injection hg' with _ ht
      cases ht
/-- a row of byte strings of the call's own -/
def GridO (w : World) (base : Nat) (v : Value) (ls : List (List Int)) : Prop :=
  ∃ vs : List Value, vs.length = ls.length ∧ w.ownsRow base 46 1 v ls.length vs ∧ ∀ (j : Nat) (x : Value) (l : List Int), vs[j]? = some x → ls[j]? = some l → w.ownsRow base 5 1 x l.length (cellsOf l)
theorem GridO.nothing (w : World) (base : Nat) : GridO w base (.slice none 0 0) [] := ⟨[], rfl, World.ownsRow_nil _ _ _ _, fun j x l h => by simp at h⟩
theorem GridO.below {w w' : World} {base B : Nat} {v : Value} {ls : List (List Int)} (h : GridO w base v ls) (hb : Below B w w') (hB : w.heap.size ≤ B) : GridO w' base v ls := by
  obtain ⟨vs, h1, h2, h3⟩ := h
  exact ⟨vs, h1, own_below h2 hb hB, fun j x l hx hl => own_below (h3 j x l hx hl) hb hB⟩
theorem GridO.mono {w : World} {base base' : Nat} {v : Value} {ls : List (List Int)} (h : GridO w base v ls) (hb : base' ≤ base) : GridO w base' v ls := by
  obtain ⟨vs, h1, h2, h3⟩ := h
  exact ⟨vs, h1, own_mono h2 hb, fun j x l hx hl => own_mono (h3 j x l hx hl) hb⟩
/-- what is owned from 'base' on stays where a lower row is written -/
theorem own_kept {w w' : World} {base g : Nat} {e : TypeId} {v : Value} {n : Nat} {xs : List Value} (h : w.ownsRow base e 1 v n xs) (hg : w.grownBy w' (some g)) (hlt : g < base) : w'.ownsRow base e 1 v n xs := by
  refine h.kept hg ?_
  cases hv : v.ownBlock with
  | none => exact .inl rfl
  | some k =>
    refine .inr fun e => ?_
    injection e with e
    have := (h.lt k hv).1
    omega
theorem GridO.kept {w w' : World} {base g : Nat} {v : Value} {ls : List (List Int)} (h : GridO w base v ls) (hg : w.grownBy w' (some g)) (hlt : g < base) : GridO w' base v ls := by
  obtain ⟨vs, h1, h2, h3⟩ := h
  exact ⟨vs, h1, own_kept h2 hg hlt, fun j x l hx hl => own_kept (h3 j x l hx hl) hg hlt⟩
theorem GridO.grid {w : World} {base : Nat} {v : Value} {ls : List (List Int)} (h : GridO w base v ls) : ∃ A c, v = .slice A ls.length c ∧ ls.length ≤ c ∧ c ≤ maxLen ∧ Grid w w.heap.size A c ls := by
  obtain ⟨vs, h1, h2, h3⟩ := h
  obtain ⟨A, c, rfl, g1, g2, g3⟩ := own_lies h2
  refine ⟨A, c, rfl, g1, g2, g3.1, fun i l hi => ?_⟩
  have hil : i < ls.length := (List.getElem?_eq_some_iff.1 hi).1
  obtain ⟨x, hx⟩ : ∃ x, vs[i]? = some x := ⟨_, List.getElem?_eq_getElem (by omega)⟩
  obtain ⟨ad, e, hB, hc⟩ := g3.2 i x hx
  obtain ⟨A', c', rfl, k1, k2, k3⟩ := own_lies (h3 i x l hx hi)
  exact ⟨ad, A', c', e, hB, hc, k1, k2, k3⟩
/-- what the loop of 'Row' keeps -/
def RelO (w : World) (l : List Int) (q : Int) (n k : Nat) (wr : World) : Prop :=
  ∃ vs : List Value, vs.length = k ∧ wr.ownsRow w.heap.size 46 1 (.slice (some ⟨w.heap.size, 0, none⟩) n n) n (vs ++ List.replicate (n - k) (.slice none 0 0)) ∧ Below w.heap.size w wr ∧
    ∀ j v, vs[j]? = some v → wr.ownsRow w.heap.size 5 1 v (bytesA l (offs l q j)).length (cellsOf (bytesA l (offs l q j)))
theorem RelO.cell {w wr w2 : World} {l : List Int} {q : Int} {n k : Nat} (h : RelO w l q n k wr) (hb : Below wr.heap.size wr w2) (hk : k < n) :
    w2.cell? ⟨w.heap.size, k, none⟩ = some (.slice none 0 0) ∧ w2.frozen? ⟨w.heap.size, k, none⟩ = false := by
  obtain ⟨vs, hv, ho, _⟩ := h
  have ho2 := own_below ho hb (Nat.le_refl _)
  refine ⟨?_, ho2.frozenAt k⟩
  rw [ho2.cellAt k (by omega)]
  subst hv
  rw [List.getElem?_append_right (Nat.le_refl _), Nat.sub_self, List.getElem?_replicate, if_pos (by omega)]
/-- a code: its name, the types of its parameters, its result, its slots, its instructions -/
structure Cd where
  name : List Int
  params : List Int
  result : Int
  slots : Int
  instrs : List (Int × Int)
/-- a module: its codes and its texts -/
structure Md where
  codes : List Cd
  texts : List (List Int)
def okT (t : Int) : Bool := decide (1 ≤ t) && decide (t ≤ 3)
def okI (i : Int × Int) : Bool := decide (1 ≤ i.1) && decide (i.1 ≤ 18)
def okCd (c : Cd) : Bool := decide (c.name.length ≤ 16) && (decide (c.params.length ≤ 16) && (decide (c.instrs.length ≤ 16384) && (decide ((c.params.length : Int) ≤ c.slots) && (decide (c.slots ≤ 256) && ((decide (c.result = 0) || okT c.result) && (c.params.all okT && c.instrs.all okI))))))
def okX (s : List Int) : Bool := decide (s.length ≤ 64)
/-- a module is right -/
def okMd (m : Md) : Bool := decide (m.codes.length ≤ 64) && (decide (m.texts.length ≤ 1024) && (m.codes.all okCd && m.texts.all okX))
/-- the numbers of a module fit -/
def Fit (n : Int) : Prop := -9223372036854775808 ≤ n ∧ n ≤ 9223372036854775807
structure CdFit (c : Cd) : Prop where
  name : Byt c.name
  params : ∀ t ∈ c.params, Fit t
  result : Fit c.result
  slots : Fit c.slots
  instrs : ∀ i ∈ c.instrs, Fit i.1 ∧ Fit i.2
structure MdFit (m : Md) : Prop where
  codes : ∀ c ∈ m.codes, CdFit c
  texts : ∀ s ∈ m.texts, Byt s
theorem okCd_is {c : Cd} (h : okCd c = true) : c.name.length ≤ 16 ∧ c.params.length ≤ 16 ∧ c.instrs.length ≤ 16384 ∧ (c.params.length : Int) ≤ c.slots ∧ c.slots ≤ 256 ∧ (c.result = 0 ∨ okT c.result = true) ∧ c.params.all okT = true ∧ c.instrs.all okI = true := by
  simpa only [okCd, Bool.and_eq_true, Bool.or_eq_true, decide_eq_true_eq] using h
theorem okMd_is {m : Md} (h : okMd m = true) : m.codes.length ≤ 64 ∧ m.texts.length ≤ 1024 ∧ m.codes.all okCd = true ∧ m.texts.all okX = true := by
  simpa only [okMd, Bool.and_eq_true, decide_eq_true_eq] using h
/-- all that was there stays but block R -/
def Moves (R : Nat) (w w' : World) : Prop := w.grownBy w' (some R)
theorem Moves.refl (R : Nat) (w : World) : Moves R w w := World.grownBy.refl _ _
theorem Moves.trans {R : Nat} {a b c : World} (h : Moves R a b) (k : Moves R b c) : Moves R a c :=
  ⟨k.os.trans h.os, k.tape.trans h.tape, k.output.trans h.output, Nat.le_trans h.size k.size, fun i hi hr => (k.block i (Nat.lt_of_lt_of_le hi h.size) hr).trans (h.block i hi hr)⟩
theorem Moves.low {R B : Nat} {a b c : World} (h : Moves R a b) (k : Below B b c) (hB : a.heap.size ≤ B) : Moves R a c :=
  ⟨k.os.trans h.os, k.tape.trans h.tape, k.output.trans h.output, Nat.le_trans h.size k.size, fun i hi hr => (k.block i (by omega)).trans (h.block i hi hr)⟩
theorem Moves.at {R : Nat} {w w' : World} (h : Moves R w w') {k : Nat} (h1 : k < w.heap.size) (h2 : k ≠ R) : w'.heap[k]? = w.heap[k]? := h.block k h1 (by intro e; injection e; omega)
theorem Moves.below {R B : Nat} {w w' : World} (h : Moves R w w') (h1 : B ≤ R) (h2 : B ≤ w.heap.size) : Below B w w' :=
  ⟨h.os, h.tape, h.output, h.size, fun k hk => h.at (by omega) (by omega)⟩
/-- an append onto a row that was made later -/
theorem Moves.grown {R : Nat} {a b c : World} (h : Moves R a b) {o : Option Nat} (k : b.grownBy c o) (ho : ∀ g, o = some g → a.heap.size ≤ g) : Moves R a c :=
  ⟨k.os.trans h.os, k.tape.trans h.tape, k.output.trans h.output, Nat.le_trans h.size k.size, fun i hi hr => (k.block i (Nat.lt_of_lt_of_le hi h.size) (fun e => by have := ho i e.symm; omega)).trans (h.block i hi hr)⟩
/-- a row of n things, whose cells are xs, below block B -/
def RowL (w : World) (B n : Nat) (xs : List Value) (V : Value) : Prop := ∃ A c, V = .slice A n c ∧ n ≤ c ∧ c ≤ maxLen ∧ Lies w B A c xs
theorem RowL.below {w w' : World} {B n : Nat} {xs : List Value} {V : Value} (h : RowL w B n xs V) (hb : Below B w w') : RowL w' B n xs V := by
  obtain ⟨A, c, h1, h2, h3, h4⟩ := h
  exact ⟨A, c, h1, h2, h3, h4.below hb⟩
theorem RowL.more {w : World} {B B' n : Nat} {xs : List Value} {V : Value} (h : RowL w B n xs V) (hB : B ≤ B') : RowL w B' n xs V := by
  obtain ⟨A, c, h1, h2, h3, h4⟩ := h
  exact ⟨A, c, h1, h2, h3, h4.more hB⟩
theorem RowL.nothing (w : World) (B : Nat) : RowL w B 0 [] (.slice none 0 0) := ⟨none, 0, rfl, Nat.le_refl _, Nat.zero_le _, Lies.nothing _ _⟩
theorem RowL.is {w : World} {B n : Nat} {xs : List Value} {V : Value} (h : RowL w B n xs V) : ∃ A c, V = .slice A n c := ⟨_, _, h.choose_spec.choose_spec.1⟩
/-- the same in a block of type T -/
def RowT (w : World) (T : TypeId) (n : Nat) (xs : List Value) (V : Value) : Prop :=
  ∃ A c, V = .slice A n c ∧ n ≤ c ∧ c ≤ maxLen ∧ (A = none → c = 0) ∧ ∀ (j : Nat) (u : Value), xs[j]? = some u → ∃ b o cs fr, A = some ⟨b, o, none⟩ ∧ w.heap[b]? = some (.cells cs T fr) ∧ cs[o + j]? = some u
/-- the blocks of type T are as they were -/
def KeptT (T : TypeId) (w w' : World) : Prop := ∀ (b : Nat) (cs : Array Value) (fr : Nat × Nat), w.heap[b]? = some (.cells cs T fr) → w'.heap[b]? = some (.cells cs T fr)
theorem RowT.kept {w w' : World} {T : TypeId} {n : Nat} {xs : List Value} {V : Value} (h : RowT w T n xs V) (hk : KeptT T w w') : RowT w' T n xs V := by
  obtain ⟨A, c, h1, h2, h3, h4, h5⟩ := h
  refine ⟨A, c, h1, h2, h3, h4, fun j u hu => ?_⟩
  obtain ⟨b, o, cs, fr, g1, g2, g3⟩ := h5 j u hu
  exact ⟨b, o, cs, fr, g1, hk b cs fr g2, g3⟩
theorem RowT.is {w : World} {T : TypeId} {n : Nat} {xs : List Value} {V : Value} (h : RowT w T n xs V) : ∃ A c, V = .slice A n c := ⟨_, _, h.choose_spec.choose_spec.1⟩
theorem RowT.nothing (w : World) (T : TypeId) : RowT w T 0 [] (.slice none 0 0) := ⟨none, 0, rfl, Nat.le_refl _, Nat.zero_le _, fun _ => rfl, fun j u h => by simp at h⟩
theorem lt_of_some {w : World} {b : Nat} {o : Obj} (h : w.heap[b]? = some o) : b < w.heap.size := (Array.getElem?_eq_some_iff.1 h).1
theorem RowT.lies {w : World} {T : TypeId} {n : Nat} {xs : List Value} {V : Value} (h : RowT w T n xs V) : RowL w w.heap.size n xs V := by
  obtain ⟨A, c, h1, h2, h3, h4, h5⟩ := h
  refine ⟨A, c, h1, h2, h3, h4, fun j u hu => ?_⟩
  obtain ⟨b, o, cs, fr, g1, g2, g3⟩ := h5 j u hu
  refine ⟨_, g1, lt_of_some g2, ?_⟩
  rw [Addr.add_lit, cell_of_row _ _ _ _ _ _ g2]
  exact g3
theorem RowT.own {w : World} {base : Nat} {T : TypeId} {size : Nat} {V : Value} {n : Nat} {xs : List Value} (h : w.ownsRow base T size V n xs) : RowT w T n xs V := by
  rcases h.2 with ⟨rfl, rfl⟩ | ⟨g, cap, cur, rfl, h1, hg, hn, hm, hs, ht⟩
  · have : xs = [] := List.eq_nil_of_length_eq_zero (by simpa using h.1)
    subst this
    exact RowT.nothing _ _
  · refine ⟨_, _, rfl, hn, hm, (fun e => by cases e), fun j u hu => ⟨g, 0, cur, (0, 0), rfl, hg, ?_⟩⟩
    subst ht
    rw [Nat.zero_add]
    rw [List.getElem?_take] at hu
    split at hu
    · simpa using hu
    · cases hu
theorem KeptT.moves {T : TypeId} {w w' : World} {R : Nat} {T' : TypeId} {cs : Array Value} {fr : Nat × Nat} (hm : Moves R w w') (hR : w.heap[R]? = some (.cells cs T' fr)) (hT : T ≠ T') : KeptT T w w' := by
  intro b cs' fr' hb
  rw [hm.at (lt_of_some hb) (by rintro rfl; rw [hR] at hb; injection hb with e; injection e with _ e _; exact hT e.symm)]
  exact hb
theorem KeptT.grown {T T' : TypeId} {w w' : World} {base size n : Nat} {V : Value} {xs : List Value} (ho : w.ownsRow base T' size V n xs) (hg : w.grownBy w' V.ownBlock) (hT : T ≠ T') : KeptT T w w' := by
  intro b cs fr hb
  rw [hg.block b (lt_of_some hb) ?_]
  · exact hb
  · intro e
    rcases ho.2 with ⟨rfl, _⟩ | ⟨g, cap, cur, rfl, _, hg', _⟩
    · cases e
    · injection e with e
      subst e
      change w.heap[b]? = _ at hg'
      rw [hg'] at hb
      injection hb with e
      injection e with _ e _
      exact hT e.symm
theorem KeptT.alloc (T : TypeId) (w : World) (o : Obj) : KeptT T w (w.alloc o) := fun b cs fr hb => by rw [Below.heap_alloc w o b (lt_of_some hb)]; exact hb
theorem KeptT.below {T : TypeId} {B : Nat} {w w' : World} (h : Below B w w') (hB : w.heap.size ≤ B) : KeptT T w w' := fun b cs fr hb => by rw [h.block b (by have := lt_of_some hb; omega)]; exact hb
theorem KeptT.trans {T : TypeId} {a b c : World} (h : KeptT T a b) (k : KeptT T b c) : KeptT T a c := fun i cs fr hi => k i cs fr (h i cs fr hi)
/-- a row that is not empty lies in one block -/
theorem lies_flat {w : World} {B : Nat} {A : Option Addr} {c : Nat} {xs : List Value} (h : Lies w B A c xs) {i : Nat} {x : Value} (hx : xs[i]? = some x) :
    ∃ b o, A = some ⟨b, o, none⟩ ∧ b < B ∧ ∀ j u, xs[j]? = some u → w.cell? ⟨b, o + j, none⟩ = some u := by
  have hl : i < xs.length := (List.getElem?_eq_some_iff.1 hx).1
  obtain ⟨ad, rfl, hB, hc⟩ := h.2 0 _ (List.getElem?_eq_getElem (by omega))
  obtain ⟨b, o, s⟩ := ad
  obtain rfl : s = none := World.cell?_spot hc
  refine ⟨b, o, rfl, hB, fun j u hu => ?_⟩
  obtain ⟨ad', e, _, hc'⟩ := h.2 j u hu
  injection e with e
  subst e
  rw [Addr.add_mid] at hc'
  exact hc'
/-- the cells of types, of instructions, of a code -/
def tysV (ts : List Int) : List Value := ts.map (Value.int .i64)
def insV (is : List (Int × Int)) : List Value := is.flatMap fun i => [.int .i64 i.1, .int .i64 i.2]
def coC (c : Cd) (P I : Value) : List Value := [.string (strOfNums c.name), P, .int .i64 c.result, .int .i64 c.slots, I]
theorem tysV_snoc (ts : List Int) (t : Int) : tysV (ts ++ [t]) = tysV ts ++ [.int .i64 t] := by simp [tysV]
theorem insV_snoc (is : List (Int × Int)) (i : Int × Int) : insV (is ++ [i]) = insV is ++ [.int .i64 i.1, .int .i64 i.2] := by simp [insV]
theorem tysV_len (ts : List Int) : (tysV ts).length = ts.length := by simp [tysV]
theorem insV_len : ∀ is : List (Int × Int), (insV is).length = is.length * 2
  | [] => rfl
  | i :: is => by
    have := insV_len is
    simp only [insV, List.flatMap_cons, List.length_append, List.length_cons, List.length_nil] at this ⊢
    omega
theorem tysV_at {ts : List Int} {i : Nat} {t : Int} (h : ts[i]? = some t) : (tysV ts)[i]? = some (.int .i64 t) := by simp [tysV, h]
theorem insV_at : ∀ {is : List (Int × Int)} {i : Nat} {x : Int × Int}, is[i]? = some x → (insV is)[i * 2]? = some (.int .i64 x.1) ∧ (insV is)[i * 2 + 1]? = some (.int .i64 x.2)
  | [], i, x, h => by simp at h
  | y :: is, 0, x, h => by
    simp at h
    subst h
    exact ⟨rfl, rfl⟩
  | y :: is, i + 1, x, h => by
    have := insV_at (is := is) (i := i) (x := x) (by simpa using h)
    rw [show (i + 1) * 2 = i * 2 + 1 + 1 by omega]
    simpa [insV] using this
/-- the cells vs are codes, whose rows F and G speak of -/
inductive CosC (F G : Nat → List Value → Value → Prop) : List Cd → List Value → Prop
  | nil : CosC F G [] []
  | cons {c : Cd} {l : List Cd} {P I : Value} {vs : List Value} (h1 : F c.params.length (tysV c.params) P) (h2 : G c.instrs.length (insV c.instrs) I) (h3 : CosC F G l vs) : CosC F G (c :: l) (coC c P I ++ vs)
theorem CosC.mono {F G F' G' : Nat → List Value → Value → Prop} (hF : ∀ n xs V, F n xs V → F' n xs V) (hG : ∀ n xs V, G n xs V → G' n xs V) {l : List Cd} {vs : List Value} (h : CosC F G l vs) : CosC F' G' l vs := by
  induction h with
  | nil => exact .nil
  | cons h1 h2 _ ih => exact .cons (hF _ _ _ h1) (hG _ _ _ h2) ih
theorem CosC.len {F G : Nat → List Value → Value → Prop} {l : List Cd} {vs : List Value} (h : CosC F G l vs) : vs.length = l.length * 5 := by
  induction h with
  | nil => rfl
  | cons h1 h2 _ ih => rw [List.length_append, ih]; simp only [coC, List.length_cons, List.length_nil]; omega
theorem CosC.append {F G : Nat → List Value → Value → Prop} {l m : List Cd} {vs us : List Value} (h : CosC F G l vs) (h' : CosC F G m us) : CosC F G (l ++ m) (vs ++ us) := by
  induction h with
  | nil => exact h'
  | cons h1 h2 _ ih =>
    rw [List.append_assoc]
    exact .cons h1 h2 ih
theorem CosC.snoc {F G : Nat → List Value → Value → Prop} {l : List Cd} {vs : List Value} {c : Cd} {P I : Value} (h : CosC F G l vs) (h1 : F c.params.length (tysV c.params) P) (h2 : G c.instrs.length (insV c.instrs) I) : CosC F G (l ++ [c]) (vs ++ coC c P I) := by
  have := h.append (.cons h1 h2 .nil)
  rwa [List.append_nil] at this
theorem CosC.get {F G : Nat → List Value → Value → Prop} {l : List Cd} {vs : List Value} (h : CosC F G l vs) : ∀ {i : Nat} {c : Cd}, l[i]? = some c →
    ∃ P I, F c.params.length (tysV c.params) P ∧ G c.instrs.length (insV c.instrs) I ∧ ∀ (j : Nat) (u : Value), (coC c P I)[j]? = some u → vs[i * 5 + j]? = some u := by
  induction h with
  | nil => intro i c h; simp at h
  | @cons d l P I vs h1 h2 _ ih =>
    intro i c hc
    cases i with
    | zero =>
      simp at hc
      subst hc
      refine ⟨P, I, h1, h2, fun j u hu => ?_⟩
      have := (List.getElem?_eq_some_iff.1 hu).1
      rw [Nat.zero_mul, Nat.zero_add, List.getElem?_append_left this]
      exact hu
    | succ i =>
      obtain ⟨P', I', g1, g2, g3⟩ := ih (i := i) (c := c) (by simpa using hc)
      refine ⟨P', I', g1, g2, fun j u hu => ?_⟩
      rw [List.getElem?_append_right (by simp [coC]; omega)]
      rw [← g3 j u hu]
      congr 1
      simp [coC]
      omega
/-- texts that lie, as a value -/
def GridV (w : World) (B : Nat) (ls : List (List Int)) (T : Value) : Prop := ∃ A c, T = .slice A ls.length c ∧ ls.length ≤ c ∧ c ≤ maxLen ∧ Grid w B A c ls
theorem GridV.below {w w' : World} {B : Nat} {ls : List (List Int)} {T : Value} (h : GridV w B ls T) (hb : Below B w w') : GridV w' B ls T := by
  obtain ⟨A, c, h1, h2, h3, h4⟩ := h
  exact ⟨A, c, h1, h2, h3, h4.below hb⟩
theorem GridV.more {w : World} {B B' : Nat} {ls : List (List Int)} {T : Value} (h : GridV w B ls T) (hB : B ≤ B') : GridV w B' ls T := by
  obtain ⟨A, c, h1, h2, h3, h4⟩ := h
  exact ⟨A, c, h1, h2, h3, h4.more hB⟩
/-- texts in blocks of their types -/
def GridT (w : World) (ls : List (List Int)) (T : Value) : Prop := ∃ vs, vs.length = ls.length ∧ RowT w 46 ls.length vs T ∧ ∀ (j : Nat) (x : Value) (l : List Int), vs[j]? = some x → ls[j]? = some l → RowT w 5 l.length (cellsOf l) x
theorem GridT.kept {w w' : World} {ls : List (List Int)} {T : Value} (h : GridT w ls T) (h1 : KeptT 46 w w') (h2 : KeptT 5 w w') : GridT w' ls T := by
  obtain ⟨vs, g0, g1, g2⟩ := h
  exact ⟨vs, g0, g1.kept h1, fun j x l hx hl => (g2 j x l hx hl).kept h2⟩
theorem GridT.own {w : World} {base : Nat} {ls : List (List Int)} {T : Value} (h : GridO w base T ls) : GridT w ls T := by
  obtain ⟨vs, h1, h2, h3⟩ := h
  exact ⟨vs, h1, RowT.own h2, fun j x l hx hl => RowT.own (h3 j x l hx hl)⟩
theorem GridT.lies {w : World} {ls : List (List Int)} {T : Value} (h : GridT w ls T) : GridV w w.heap.size ls T := by
  obtain ⟨vs, h0, h1, h2⟩ := h
  obtain ⟨A, c, rfl, g1, g2, g3⟩ := h1.lies
  refine ⟨A, c, rfl, g1, g2, g3.1, fun i l hl => ?_⟩
  have hi : i < ls.length := (List.getElem?_eq_some_iff.1 hl).1
  obtain ⟨x, hx⟩ : ∃ x, vs[i]? = some x := ⟨_, List.getElem?_eq_getElem (by omega)⟩
  obtain ⟨ad, rfl, hB, hc⟩ := g3.2 i x hx
  obtain ⟨A', c', rfl, k1, k2, k3⟩ := (h2 i x l hx hl).lies
  exact ⟨ad, A', c', rfl, hB, hc, k1, k2, k3⟩
/-- codes that lie, as a value -/
def CodesV (w : World) (B : Nat) (l : List Cd) (V : Value) : Prop := ∃ A c vs, V = .slice A l.length c ∧ l.length ≤ c ∧ c ≤ maxLen ∧ Lies w B A c vs ∧ CosC (RowL w B) (RowL w B) l vs
theorem CodesV.below {w w' : World} {B : Nat} {l : List Cd} {V : Value} (h : CodesV w B l V) (hb : Below B w w') : CodesV w' B l V := by
  obtain ⟨A, c, vs, h1, h2, h3, h4, h5⟩ := h
  exact ⟨A, c, vs, h1, h2, h3, h4.below hb, h5.mono (fun _ _ _ h => h.below hb) (fun _ _ _ h => h.below hb)⟩
theorem CodesV.more {w : World} {B B' : Nat} {l : List Cd} {V : Value} (h : CodesV w B l V) (hB : B ≤ B') : CodesV w B' l V := by
  obtain ⟨A, c, vs, h1, h2, h3, h4, h5⟩ := h
  exact ⟨A, c, vs, h1, h2, h3, h4.more hB, h5.mono (fun _ _ _ h => h.more hB) (fun _ _ _ h => h.more hB)⟩
theorem CodesV.nothing (w : World) (B : Nat) : CodesV w B [] (.slice none 0 0) := ⟨none, 0, [], rfl, Nat.le_refl _, Nat.zero_le _, Lies.nothing _ _, .nil⟩
theorem GridV.nothing (w : World) (B : Nat) : GridV w B [] (.slice none 0 0) := ⟨none, 0, rfl, Nat.le_refl _, Nat.zero_le _, Grid.nothing _ _⟩
/-- a module that lies, as a value -/
def ModV (w : World) (B : Nat) (m : Md) (V : Value) : Prop := ∃ C T, V = .agg #[C, T] ∧ CodesV w B m.codes C ∧ GridV w B m.texts T
theorem ModV.below {w w' : World} {B : Nat} {m : Md} {V : Value} (h : ModV w B m V) (hb : Below B w w') : ModV w' B m V := by
  obtain ⟨C, T, h1, h2, h3⟩ := h
  exact ⟨C, T, h1, h2.below hb, h3.below hb⟩
theorem ModV.more {w : World} {B B' : Nat} {m : Md} {V : Value} (h : ModV w B m V) (hB : B ≤ B') : ModV w B' m V := by
  obtain ⟨C, T, h1, h2, h3⟩ := h
  exact ⟨C, T, h1, h2.more hB, h3.more hB⟩
/-- a code that lies, as a value -/
def CodeV (w : World) (B : Nat) (c : Cd) (V : Value) : Prop := ∃ P I, V = .agg (coC c P I).toArray ∧ RowL w B c.params.length (tysV c.params) P ∧ RowL w B c.instrs.length (insV c.instrs) I
/-- what an append onto the row v, which is v' behind it, leaves -/
def Gro (v v' : Value) (w w' : World) : Prop := w.grownBy w' v.ownBlock ∧ (v'.ownBlock = v.ownBlock ∨ ∃ g, v'.ownBlock = some g ∧ w.heap.size ≤ g)
theorem Gro.refl (v : Value) (w : World) : Gro v v w w := ⟨World.grownBy.refl _ _, .inl rfl⟩
theorem Gro.trans {v v' v'' : Value} {a b c : World} (h : Gro v v' a b) (k : Gro v' v'' b c) : Gro v v'' a c := by
  obtain ⟨h1, h2⟩ := h
  obtain ⟨k1, k2⟩ := k
  refine ⟨⟨k1.os.trans h1.os, k1.tape.trans h1.tape, k1.output.trans h1.output, Nat.le_trans h1.size k1.size, fun i hi hr => (k1.block i (Nat.lt_of_lt_of_le hi h1.size) (fun e => ?_)).trans (h1.block i hi hr)⟩, ?_⟩
  · rcases h2 with h2 | ⟨g, h2, h3⟩
    · exact hr (e.trans h2)
    · rw [h2] at e
      injection e with e
      omega
  · rcases k2 with k2 | ⟨g, k2, k3⟩
    · rcases h2 with h2 | ⟨g, h2, h3⟩
      · exact .inl (k2.trans h2)
      · exact .inr ⟨g, k2.trans h2, h3⟩
    · exact .inr ⟨g, k2, Nat.le_trans h1.size k3⟩
theorem Gro.kept {v v' : Value} {w w' : World} (h : Gro v v' w w') {k : Nat} (hk : k < w.heap.size) (hv : v.ownBlock ≠ some k) : w'.heap[k]? = w.heap[k]? ∧ v'.ownBlock ≠ some k := by
  refine ⟨h.1.block k hk (fun e => hv e.symm), fun e => ?_⟩
  rcases h.2 with h2 | ⟨g, h2, h3⟩
  · exact hv (h2.symm.trans e)
  · rw [h2] at e
    injection e with e
    omega
theorem Gro.below {v v' : Value} {w w' : World} (h : Gro v v' w w') {base : Nat} {e : TypeId} {size n : Nat} {xs : List Value} (ho : w.ownsRow base e size v n xs) (hb : base ≤ w.heap.size) : Below base w w' :=
  (Below.refl _ _).grown h.1 hb fun k hk => (ho.lt k hk).1
theorem own_not {w : World} {base : Nat} {e : TypeId} {size n : Nat} {v : Value} {xs : List Value} (ho : w.ownsRow base e size v n xs) {k : Nat} (hk : w.heap.size ≤ k) : v.ownBlock ≠ some k := fun e => by
  have := (ho.lt k e).2
  omega
/-- 'append' of a slice that lies onto what the call owns -/
theorem wp_append_gro {P : Program} (w : World) {o : Oper} {a : Act} {K : Act → World → Prop} {Q : Exit → Act → World → Prop} (s x : Operand) (t : TypeId)
    (ho : o.op = .call { callee := .builtin .append, args := #[s, x], argTypes := #[t, t] })
    (base : Nat) (e : TypeId) (i : TypeInfo) (z : Value) (size bytes : Nat) (ht : P.underlying t = some (.slice e)) (hi : P.info? e = some i) (hz : i.zero = some z)
    (hsize : i.size = size) (hby : i.bytes = bytes) (hzs : z.cells.size = size) (hsz : 0 < size)
    (v : Value) (n : Nat) (xs : List Value) (hs : a.eval s = v) (hown : w.ownsRow base e size v n xs)
    (B : Nat) (A : Option Addr) (m c : Nat) (news : List Value) (hx : a.eval x = .slice A m c) (hm : news.length = m * size) (hr : Lies w B A c news) (h1 : ∀ u ∈ news, u.oneCell' = true)
    (h63 : n + m ≤ maxLen) (hbytes : (n + m) * bytes ≤ 140737488355328) (hbase : base ≤ w.heap.size)
    (h : ∀ v' w', w'.ownsRow base e size v' (n + m) (xs ++ news) → Gro v v' w w' → K (a.put o.dst v') w') : o.wp P a w K Q := by
  cases A with
  | none =>
    obtain ⟨rfl, rfl⟩ := hr.none_nil
    have hm0 : m = 0 := by
      rw [List.length_nil] at hm
      rcases Nat.mul_eq_zero.1 hm.symm with h | h <;> omega
    subst hm0
    have hrun := run_append_owned_none (P := P) (w := w) base t o.type e i size ht hi v n xs hown
    have hK := h v w (by simpa using hown) (Gro.refl _ _)
    unfold Oper.wp execOp
    simp only [ho, resolve, invoke, builtin, Sem.run_bind, Sem.run_pure, Result.andThen_ok, List.map_toArray, List.map_cons, List.map_nil, hs, hx, hrun]
    exact hK
  | some ad =>
    obtain ⟨v', w', hrun, h2, h3, _, h5⟩ := run_append_own_at (P := P) w base t o.type e i z size bytes ht hi hz hsize hby hzs hsz v n xs hown ad m c news hm (fun j u hu => by
      obtain ⟨ad', e', _, hc⟩ := hr.2 j u hu
      injection e' with e'
      subst e'
      exact hc) h1 h63 hbytes hbase
    have hK := h v' w' h2 ⟨h3, h5.imp id fun h => ⟨_, h, Nat.le_refl _⟩⟩
    unfold Oper.wp execOp
    simp only [ho, resolve, invoke, builtin, Sem.run_bind, Sem.run_pure, Result.andThen_ok, List.map_toArray, List.map_cons, List.map_nil, hs, hx, hrun]
    exact hK
theorem wpList_append_gro {P : Program} (w : World) {ops : Array Oper} {rest : List Oper} {o : Oper} {a : Act} {Q : Exit → Act → World → Prop} (hgd : o.guard = none) (s x : Operand) (t : TypeId)
    (ho : o.op = .call { callee := .builtin .append, args := #[s, x], argTypes := #[t, t] })
    (base : Nat) (e : TypeId) (i : TypeInfo) (z : Value) (size bytes : Nat) (ht : P.underlying t = some (.slice e)) (hi : P.info? e = some i) (hz : i.zero = some z)
    (hsize : i.size = size) (hby : i.bytes = bytes) (hzs : z.cells.size = size) (hsz : 0 < size)
    (v : Value) (n : Nat) (xs : List Value) (hs : a.eval s = v) (hown : w.ownsRow base e size v n xs)
    (B : Nat) (A : Option Addr) (m c : Nat) (news : List Value) (hx : a.eval x = .slice A m c) (hm : news.length = m * size) (hr : Lies w B A c news) (h1 : ∀ u ∈ news, u.oneCell' = true)
    (h63 : n + m ≤ maxLen) (hbytes : (n + m) * bytes ≤ 140737488355328) (hbase : base ≤ w.heap.size)
    (h : ∀ v' w', w'.ownsRow base e size v' (n + m) (xs ++ news) → Gro v v' w w' → wpList P ops Q rest (a.put o.dst v') w') : wpList P ops Q (o :: rest) a w :=
  wpList_plain hgd fun _ hK => wp_append_gro w s x t ho base e i z size bytes ht hi hz hsize hby hzs hsz v n xs hs hown B A m c news hx hm hr h1 h63 hbytes hbase fun v' w' h2 h3 => hK _ _ (h v' w' h2 h3)
/-- a block of one's own, beside the row v, as it was made -/
structure Pk (w0 : World) (base g T : Nat) (cs : Array Value) (v : Value) (w : World) : Prop where
  box : w.heap[g]? = some (.cells cs T (0, 0))
  ne : v.ownBlock ≠ some g
  low : Below base w0 w
  hbase : base ≤ w.heap.size
theorem Pk.cell {w0 w : World} {base g T : Nat} {cs : Array Value} {v : Value} (h : Pk w0 base g T cs v w) {k : Nat} {u : Value} (hu : cs[k]? = some u) : w.cell? ⟨g, k, none⟩ = some u := by
  rw [cell_of_row _ _ _ _ _ _ h.box]
  exact hu
theorem info50s : (Tryd.prog.info? 35).map (·.size) = some 2 := by kernel_rfl
theorem info46s : (Tryd.prog.info? 30).map (·.size) = some 5 := by kernel_rfl
theorem range2 {w : World} {b o : Nat} {u v : Value} (h1 : w.cell? ⟨b, o, none⟩ = some u) (h2 : w.cell? ⟨b, o + 1, none⟩ = some v) : w.rangeAt b o [u, v] := by
  intro j x hx
  match j, hx with
  | 0, hx => simp at hx; subst hx; exact h1
  | 1, hx => simp at hx; subst hx; exact h2
/-- a call that answers a bool, and changes nothing that was there -/
def Says (b : Bool) (w : World) (e : Ending) (w' : World) : Prop := e = .returned (.bool b) ∧ Below w.heap.size w w'
theorem ofValue (t : Int) (w : World) : Calls Tryd.prog 29 #[.int .i64 t] w (Says (okT t) w) := by
  unfold okT
  go_enter Tryd.func29, Tryd.ntmps29
  go_wp2
  all_goals go_ret
  all_goals (refine ⟨?_, Below.refl _ _⟩; simp; omega)
theorem okInstr (i : Int × Int) (w : World) : Calls Tryd.prog 32 #[.agg #[.int .i64 i.1, .int .i64 i.2]] w (Says (okI i) w) := by
  unfold okI
  go_enter Tryd.func32, Tryd.ntmps32
  go_wp2
  all_goals go_ret
  all_goals (refine ⟨?_, (Below.refl _ _).alloc (Nat.le_refl _) _⟩; simp; omega)
theorem okText (A : Option Addr) (n c : Nat) (w : World) (hn : n ≤ maxLen) (b : Bool) (hb : b = decide (n ≤ 64)) : Calls Tryd.prog 21 #[.slice A n c] w (Says b w) := by
  subst hb
  unfold maxLen at hn
  go_enter Tryd.func21, Tryd.ntmps21
  go_wp2
  all_goals go_ret
  all_goals (refine ⟨?_, Below.refl _ _⟩; simp; try omega)
/-- the first k of l are right, and if the next one is not, not all are -/
theorem all_take {α : Type} {f : α → Bool} {l : List α} {k : Nat} {x : α} (hx : l[k]? = some x) (h : (l.take k).all f = true) : (l.take (k + 1)).all f = f x := by
  rw [take_next hx, List.all_append, h]
  simp
theorem all_not {α : Type} {f : α → Bool} {l : List α} {k : Nat} {x : α} (hx : l[k]? = some x) (h : f x = false) : l.all f = false := by
  rw [List.all_eq_false]
  exact ⟨x, List.mem_of_getElem? hx, by rw [h]; decide⟩
set_option maxHeartbeats 800000 in
theorem allTypes (V : Value) (ts : List Int) (w : World) (h : RowL w w.heap.size ts.length (tysV ts) V) : Calls Tryd.prog 30 #[V, .func (.func 29) #[] #[]] w (Says (ts.all okT) w) := by
  obtain ⟨A, c, rfl, h1, h2, h3⟩ := h
  have HL := Lib.hid h3
  have HA : Hid (∀ k x, ts[k]? = some x → okT x = false → ts.all okT = false) := fun k x hx h => all_not hx h
  have HT : Hid (∀ k x, ts[k]? = some x → (ts.take k).all okT = true → (ts.take (k + 1)).all okT = okT x) := fun k x hx h => all_take hx h
  have HE : Hid ((ts.take ts.length).all okT = ts.all okT) := Lib.hid (by rw [List.take_length])
  clear h3
  unfold maxLen at h2
  generalize ts.all okT = r at *
  go_enter Tryd.func30, Tryd.ntmps30
  go_wp2
  go_loopw [9] (fun i wr => ∃ k : Nat, k ≤ ts.length ∧ i = .int .i64 k ∧ (ts.take k).all okT = true ∧ Below w.heap.size w wr) (fun i _ => ts.length - (intOf i).toNat)
  case atStart => exact ⟨0, Nat.zero_le _, rfl, rfl, Below.refl _ _⟩
  case round =>
    obtain ⟨k, hk, rfl, ha, hb⟩ := hrel
    have HB := Lib.hid hb
    have HK := Lib.hid ha
    clear hb ha
    by_cases hkl : k < ts.length
    · obtain ⟨x, hx⟩ : ∃ x, ts[k]? = some x := ⟨_, List.getElem?_eq_getElem hkl⟩
      obtain ⟨ad, rfl, hB, hc0⟩ := HL.out.2 k _ (tysV_at hx)
      have hc : wr.cell? (ad.add k) = some (.int .i64 x) := by rw [HB.out.cell (by rw [addr_block]; exact hB)]; exact hc0
      have HX := Lib.hid hx
      clear hx hc0
      go_wp2_with fail
      refine (ofValue x _).mono ?_
      rintro e w1 ⟨rfl, hb1⟩
      have HB1 : Hid (Below w.heap.size w w1) := Lib.hid (HB.out.trans (hb1.mono HB.out.size))
      clear hb1
      cases hq : okT x with
      | true =>
        have HN := Lib.hid ((HT.out k x HX.out HK.out).trans hq)
        clear hq
        go_wp2
        go_roundw
        case rel => exact ⟨k + 1, by omega, by go_num, HN.out, HB1.out⟩
        case measure => simp [intOf]; omega
      | false =>
        have HN := Lib.hid (HA.out k x HX.out hq)
        clear hq
        go_wp2
        go_ret
        exact ⟨by rw [HN.out]; rfl, HB1.out⟩
    · obtain rfl : k = ts.length := by omega
      have HN := Lib.hid (HE.out.symm.trans HK.out)
      go_wp2
      go_ret
      exact ⟨by rw [HN.out]; rfl, HB.out⟩
set_option maxHeartbeats 800000 in
theorem allTexts (V : Value) (ts : List (List Int)) (w : World) (h : GridV w w.heap.size ts V) : Calls Tryd.prog 20 #[V, .func (.func 21) #[] #[]] w (Says (ts.all okX) w) := by
  obtain ⟨A, c, rfl, h1, h2, h3⟩ := h
  have HL := Lib.hid h3
  have HA : Hid (∀ k x, ts[k]? = some x → okX x = false → ts.all okX = false) := fun k x hx h => all_not hx h
  have HT : Hid (∀ k x, ts[k]? = some x → (ts.take k).all okX = true → (ts.take (k + 1)).all okX = okX x) := fun k x hx h => all_take hx h
  have HE : Hid ((ts.take ts.length).all okX = ts.all okX) := Lib.hid (by rw [List.take_length])
  clear h3
  unfold maxLen at h2
  generalize ts.all okX = r at *
  go_enter Tryd.func20, Tryd.ntmps20
  go_wp2
  go_loopw [9] (fun i wr => ∃ k : Nat, k ≤ ts.length ∧ i = .int .i64 k ∧ (ts.take k).all okX = true ∧ Below w.heap.size w wr) (fun i _ => ts.length - (intOf i).toNat)
  case atStart => exact ⟨0, Nat.zero_le _, rfl, rfl, Below.refl _ _⟩
  case round =>
    obtain ⟨k, hk, rfl, ha, hb⟩ := hrel
    have HB := Lib.hid hb
    have HK := Lib.hid ha
    clear hb ha
    by_cases hkl : k < ts.length
    · obtain ⟨x, hx⟩ : ∃ x, ts[k]? = some x := ⟨_, List.getElem?_eq_getElem hkl⟩
      obtain ⟨ad, A', c', rfl, hB, hc0, g1, g2, _⟩ := HL.out.2 k _ hx
      have hc : wr.cell? (ad.add k) = some (.slice A' x.length c') := by rw [HB.out.cell (by rw [addr_block]; exact hB)]; exact hc0
      have HX := Lib.hid hx
      clear hx hc0
      go_wp2_with fail
      refine (okText A' x.length c' _ (by omega) (okX x) rfl).mono ?_
      rintro e w1 ⟨rfl, hb1⟩
      have HB1 : Hid (Below w.heap.size w w1) := Lib.hid (HB.out.trans (hb1.mono HB.out.size))
      clear hb1
      cases hq : okX x with
      | true =>
        have HN := Lib.hid ((HT.out k x HX.out HK.out).trans hq)
        clear hq
        go_wp2
        go_roundw
        case rel => exact ⟨k + 1, by omega, by go_num, HN.out, HB1.out⟩
        case measure => simp [intOf]; omega
      | false =>
        have HN := Lib.hid (HA.out k x HX.out hq)
        clear hq
        go_wp2
        go_ret
        exact ⟨by rw [HN.out]; rfl, HB1.out⟩
    · obtain rfl : k = ts.length := by omega
      have HN := Lib.hid (HE.out.symm.trans HK.out)
      go_wp2
      go_ret
      exact ⟨by rw [HN.out]; rfl, HB.out⟩
set_option maxHeartbeats 800000 in
theorem allInstrs (V : Value) (ts : List (Int × Int)) (w : World) (h : RowL w w.heap.size ts.length (insV ts) V) : Calls Tryd.prog 31 #[V, .func (.func 32) #[] #[]] w (Says (ts.all okI) w) := by
  obtain ⟨A, c, rfl, h1, h2, h3⟩ := h
  have HL := Lib.hid h3
  have HA : Hid (∀ k x, ts[k]? = some x → okI x = false → ts.all okI = false) := fun k x hx h => all_not hx h
  have HT : Hid (∀ k x, ts[k]? = some x → (ts.take k).all okI = true → (ts.take (k + 1)).all okI = okI x) := fun k x hx h => all_take hx h
  have HE : Hid ((ts.take ts.length).all okI = ts.all okI) := Lib.hid (by rw [List.take_length])
  clear h3
  unfold maxLen at h2
  generalize ts.all okI = r at *
  go_enter Tryd.func31, Tryd.ntmps31
  go_wp2
  go_loopw [9] (fun i wr => ∃ k : Nat, k ≤ ts.length ∧ i = .int .i64 k ∧ (ts.take k).all okI = true ∧ Below w.heap.size w wr) (fun i _ => ts.length - (intOf i).toNat)
  case atStart => exact ⟨0, Nat.zero_le _, rfl, rfl, Below.refl _ _⟩
  case round =>
    obtain ⟨k, hk, rfl, ha, hb⟩ := hrel
    have HB := Lib.hid hb
    have HK := Lib.hid ha
    clear hb ha
    by_cases hkl : k < ts.length
    · obtain ⟨x, hx⟩ : ∃ x, ts[k]? = some x := ⟨_, List.getElem?_eq_getElem hkl⟩
      have hx2 := insV_at hx
      obtain ⟨b, o, rfl, hB, hcc⟩ := lies_flat HL.out hx2.1
      have HR := Lib.hid (range2 (w := wr) (b := b) (o := o + k * 2) (by rw [HB.out.cell hB]; exact hcc _ _ hx2.1) (by rw [Nat.add_assoc, HB.out.cell hB]; exact hcc _ _ hx2.2))
      clear hx2
      have HX := Lib.hid hx
      clear hx hcc
      go_wp2_with (first | (refine wpList_load_mid rfl 35 (.tmp 11) rfl b (o + k * 2) rfl [.int .i64 x.1, .int .i64 x.2] _ HR.out Tryd.underlying35 rfl info50s ?_; refine Hid.out ?_) | fail)
      refine Lib.hid ?_
      go_wp2_with fail
      refine (okInstr x _).mono ?_
      rintro e w1 ⟨rfl, hb1⟩
      have HB1 : Hid (Below w.heap.size w w1) := Lib.hid ((HB.out.alloc HB.out.size _).trans (hb1.mono (by simp; have := HB.out.size; omega)))
      clear hb1
      cases hq : okI x with
      | true =>
        have HN := Lib.hid ((HT.out k x HX.out HK.out).trans hq)
        clear hq
        go_wp2
        go_roundw
        case rel => exact ⟨k + 1, by omega, by go_num, HN.out, HB1.out⟩
        case measure => simp [intOf]; omega
      | false =>
        have HN := Lib.hid (HA.out k x HX.out hq)
        clear hq
        go_wp2
        go_ret
        exact ⟨by rw [HN.out]; rfl, HB1.out⟩
    · obtain rfl : k = ts.length := by omega
      have HN := Lib.hid (HE.out.symm.trans HK.out)
      go_wp2
      go_ret
      exact ⟨by rw [HN.out]; rfl, HB.out⟩
theorem okCd_not {c : Cd} (h : ¬ (c.name.length ≤ 16 ∧ c.params.length ≤ 16 ∧ c.instrs.length ≤ 16384 ∧ (c.params.length : Int) ≤ c.slots ∧ c.slots ≤ 256 ∧ (c.result = 0 ∨ okT c.result = true))) : okCd c = false := by
  rw [← Bool.not_eq_true]
  intro h2
  obtain ⟨h1, h2, h3, h4, h5, h6, h7, h8⟩ := okCd_is h2
  exact h ⟨h1, h2, h3, h4, h5, h6⟩
theorem okCd_yes {c : Cd} (h1 : c.name.length ≤ 16) (h2 : c.params.length ≤ 16) (h3 : c.instrs.length ≤ 16384) (h4 : (c.params.length : Int) ≤ c.slots) (h5 : c.slots ≤ 256) (h6 : c.result = 0 ∨ okT c.result = true) : okCd c = (c.params.all okT && c.instrs.all okI) := by
  have h7 : (decide (c.result = 0) || okT c.result) = true := by simpa using h6
  simp only [okCd, h1, h2, h3, h4, h5, h7, decide_true, Bool.true_and]
set_option maxHeartbeats 800000 in
theorem rightCode (c : Cd) (V : Value) (w : World) (h : CodeV w w.heap.size c V) : Calls Tryd.prog 19 #[V] w (Says (okCd c) w) := by
  obtain ⟨P, I, rfl, hP, hI⟩ := h
  have KT := Lib.hid (fun w' hb => allTypes P c.params w' ((hP.below (w' := w') hb).more hb.size))
  have KI := Lib.hid (fun w' hb => allInstrs I c.instrs w' ((hI.below (w' := w') hb).more hb.size))
  obtain ⟨AP, cP, rfl, p1, p2, p3⟩ := hP
  obtain ⟨AI, cI, rfl, q1, q2, q3⟩ := hI
  have HN := Lib.hid (@okCd_not c)
  have HY := Lib.hid (@okCd_yes c)
  have hs : (strOfNums c.name).size = c.name.length := strOfNums_size _
  clear p3 q3
  unfold coC
  unfold maxLen at p2 q2
  generalize strOfNums c.name = nm at *
  generalize okCd c = r at *
  generalize c.result = rt at *
  by_cases g1 : c.name.length ≤ 16
  · by_cases g2 : c.params.length ≤ 16
    · by_cases g3 : c.instrs.length ≤ 16384
      · by_cases g4 : (c.params.length : Int) ≤ c.slots
        · by_cases g5 : c.slots ≤ 256
          · have B1 := Lib.hid ((Below.refl w.heap.size w).alloc (Nat.le_refl _) (.cells #[.string nm, .slice AP c.params.length cP, .int .i64 rt, .int .i64 c.slots, .slice AI c.instrs.length cI] 30))
            have CE : Hid (∀ w', Below (w.heap.size + 1) (w.alloc (.cells #[.string nm, .slice AP c.params.length cP, .int .i64 rt, .int .i64 c.slots, .slice AI c.instrs.length cI] 30)) w' → w'.cell? ⟨w.heap.size, 1, none⟩ = some (.slice AP c.params.length cP) ∧ w'.cell? ⟨w.heap.size, 2, none⟩ = some (.int .i64 rt) ∧ w'.cell? ⟨w.heap.size, 4, none⟩ = some (.slice AI c.instrs.length cI)) := fun w' hb => by
              have hx : w'.heap[w.heap.size]? = some (.cells #[.string nm, .slice AP c.params.length cP, .int .i64 rt, .int .i64 c.slots, .slice AI c.instrs.length cI] 30) := by rw [hb.block _ (Nat.lt_succ_self _)]; exact heap_alloc_new w _
              exact ⟨by rw [cell_of_row _ _ _ _ _ _ hx]; rfl, by rw [cell_of_row _ _ _ _ _ _ hx]; rfl, by rw [cell_of_row _ _ _ _ _ _ hx]; rfl⟩
            by_cases g6 : rt = 0
            · have hy := HY.out g1 g2 g3 g4 g5 (.inl g6)
              subst g6
              have CB := Lib.hid (Below.refl (w.heap.size + 1) (w.alloc (.cells #[.string nm, .slice AP c.params.length cP, .int .i64 0, .int .i64 c.slots, .slice AI c.instrs.length cI] 30)))
              go_enter Tryd.func19, Tryd.ntmps19
              have K1 := Lib.hid (KT.out _ B1.out)
              go_wp2_with fail
              refine K1.out.mono ?_
              rintro e w2 ⟨rfl, hb2⟩
              have B2 : Hid (Below w.heap.size w w2) := Lib.hid (B1.out.trans (hb2.mono B1.out.size))
              have C2 : Hid (Below (w.heap.size + 1) (w.alloc (.cells #[.string nm, .slice AP c.params.length cP, .int .i64 0, .int .i64 c.slots, .slice AI c.instrs.length cI] 30)) w2) := Lib.hid (CB.out.trans (hb2.mono (by simp)))
              have K2 := Lib.hid (KI.out _ B2.out)
              have d4 := (CE.out _ C2.out).2.2
              clear K1 hb2
              cases hq : c.params.all okT with
              | false =>
                rw [hq] at hy
                go_wp2
                go_ret
                exact ⟨by first | rfl | (rw [hy]; rfl), B2.out⟩
              | true =>
                rw [hq] at hy
                have HYY := Lib.hid hy
                clear hy hq
                go_wp2_with fail
                refine K2.out.mono ?_
                rintro e w3 ⟨rfl, hb3⟩
                have B3 : Hid (Below w.heap.size w w3) := Lib.hid (B2.out.trans (hb3.mono B2.out.size))
                clear hb3 K2
                go_wp2
                go_ret
                exact ⟨by rw [HYY.out]; rfl, B3.out⟩
            · go_enter Tryd.func19, Tryd.ntmps19
              go_wp2_with fail
              refine (ofValue rt _).mono ?_
              rintro e w1 ⟨rfl, hb1⟩
              have CB : Hid (Below (w.heap.size + 1) (w.alloc (.cells #[.string nm, .slice AP c.params.length cP, .int .i64 rt, .int .i64 c.slots, .slice AI c.instrs.length cI] 30)) w1) := Lib.hid (hb1.mono (by simp))
              have B5 : Hid (Below w.heap.size w w1) := Lib.hid (B1.out.trans (CB.out.mono (Nat.le_succ _)))
              have d1 := (CE.out _ CB.out).1
              clear hb1
              cases hq1 : okT rt with
              | false =>
                have hr := HN.out (fun h => by rcases h.2.2.2.2.2 with h | h; exact g6 h; rw [hq1] at h; cases h)
                go_wp2
                go_ret
                exact ⟨by first | rfl | (rw [hr]; rfl), B5.out⟩
              | true =>
                have hy := HY.out g1 g2 g3 g4 g5 (.inr hq1)
                clear hq1
                have K1 := Lib.hid (KT.out _ B5.out)
                go_wp2_with fail
                refine K1.out.mono ?_
                rintro e w2 ⟨rfl, hb2⟩
                have B2 : Hid (Below w.heap.size w w2) := Lib.hid (B5.out.trans (hb2.mono B5.out.size))
                have C2 : Hid (Below (w.heap.size + 1) (w.alloc (.cells #[.string nm, .slice AP c.params.length cP, .int .i64 rt, .int .i64 c.slots, .slice AI c.instrs.length cI] 30)) w2) := Lib.hid (CB.out.trans (hb2.mono (by have := CB.out.size; simpa using this)))
                have K2 := Lib.hid (KI.out _ B2.out)
                have d4 := (CE.out _ C2.out).2.2
                clear K1 hb2
                cases hq : c.params.all okT with
                | false =>
                  rw [hq] at hy
                  go_wp2
                  go_ret
                  exact ⟨by first | rfl | (rw [hy]; rfl), B2.out⟩
                | true =>
                  rw [hq] at hy
                  have HYY := Lib.hid hy
                  clear hy hq
                  go_wp2_with fail
                  refine K2.out.mono ?_
                  rintro e w3 ⟨rfl, hb3⟩
                  have B3 : Hid (Below w.heap.size w w3) := Lib.hid (B2.out.trans (hb3.mono B2.out.size))
                  clear hb3 K2
                  go_wp2
                  go_ret
                  exact ⟨by rw [HYY.out]; rfl, B3.out⟩
          · have hr := HN.out (fun h => g5 h.2.2.2.2.1)
            go_enter Tryd.func19, Tryd.ntmps19
            go_wp2
            go_ret
            exact ⟨by first | rfl | (rw [hr]; rfl), (Below.refl _ _).alloc (Nat.le_refl _) _⟩
        · have hr := HN.out (fun h => g4 h.2.2.2.1)
          go_enter Tryd.func19, Tryd.ntmps19
          go_wp2
          go_ret
          exact ⟨by first | rfl | (rw [hr]; rfl), (Below.refl _ _).alloc (Nat.le_refl _) _⟩
      · have hr := HN.out (fun h => g3 h.2.2.1)
        go_enter Tryd.func19, Tryd.ntmps19
        go_wp2
        go_ret
        exact ⟨by first | rfl | (rw [hr]; rfl), (Below.refl _ _).alloc (Nat.le_refl _) _⟩
    · have hr := HN.out (fun h => g2 h.2.1)
      go_enter Tryd.func19, Tryd.ntmps19
      go_wp2
      go_ret
      exact ⟨by first | rfl | (rw [hr]; rfl), (Below.refl _ _).alloc (Nat.le_refl _) _⟩
  · have hr := HN.out (fun h => g1 h.1)
    go_enter Tryd.func19, Tryd.ntmps19
    go_wp2
    go_ret
    exact ⟨by first | rfl | (rw [hr]; rfl), (Below.refl _ _).alloc (Nat.le_refl _) _⟩
theorem CodeV.below {w w' : World} {B : Nat} {c : Cd} {V : Value} (h : CodeV w B c V) (hb : Below B w w') {B' : Nat} (hB : B ≤ B') : CodeV w' B' c V := by
  obtain ⟨P, I, h1, h2, h3⟩ := h
  exact ⟨P, I, h1, (h2.below hb).more hB, (h3.below hb).more hB⟩
set_option maxHeartbeats 800000 in
theorem allCodes (V : Value) (ts : List Cd) (w : World) (h : CodesV w w.heap.size ts V) : Calls Tryd.prog 18 #[V, .func (.func 19) #[] #[]] w (Says (ts.all okCd) w) := by
  obtain ⟨A, c, vs, rfl, h1, h2, h3, h4⟩ := h
  have HL := Lib.hid h3
  have HS := Lib.hid h4
  clear h4
  have HA : Hid (∀ k x, ts[k]? = some x → okCd x = false → ts.all okCd = false) := fun k x hx h => all_not hx h
  have HT : Hid (∀ k x, ts[k]? = some x → (ts.take k).all okCd = true → (ts.take (k + 1)).all okCd = okCd x) := fun k x hx h => all_take hx h
  have HE : Hid ((ts.take ts.length).all okCd = ts.all okCd) := Lib.hid (by rw [List.take_length])
  clear h3
  unfold maxLen at h2
  generalize ts.all okCd = r at *
  go_enter Tryd.func18, Tryd.ntmps18
  go_wp2
  go_loopw [9] (fun i wr => ∃ k : Nat, k ≤ ts.length ∧ i = .int .i64 k ∧ (ts.take k).all okCd = true ∧ Below w.heap.size w wr) (fun i _ => ts.length - (intOf i).toNat)
  case atStart => exact ⟨0, Nat.zero_le _, rfl, rfl, Below.refl _ _⟩
  case round =>
    obtain ⟨k, hk, rfl, ha, hb⟩ := hrel
    have HB := Lib.hid hb
    have HK := Lib.hid ha
    clear hb ha
    by_cases hkl : k < ts.length
    · obtain ⟨x, hx⟩ : ∃ x, ts[k]? = some x := ⟨_, List.getElem?_eq_getElem hkl⟩
      obtain ⟨P, I, hP, hI, hget⟩ := HS.out.get hx
      obtain ⟨AP, cP, rfl, p1, p2, p3⟩ := hP
      obtain ⟨AI, cI, rfl, q1, q2, q3⟩ := hI
      obtain ⟨b, o, rfl, hB, hcc⟩ := lies_flat HL.out (hget 0 _ rfl)
      have HR : Hid (wr.rangeAt b (o + k * 5) (coC x (.slice AP x.params.length cP) (.slice AI x.instrs.length cI))) := fun j u hu => by
        show wr.cell? ⟨b, o + k * 5 + j, none⟩ = some u
        rw [Nat.add_assoc, HB.out.cell hB]
        exact hcc _ _ (hget j u hu)
      have HV : Hid (CodeV w w.heap.size x (.agg #[.string (strOfNums x.name), .slice AP x.params.length cP, .int .i64 x.result, .int .i64 x.slots, .slice AI x.instrs.length cI])) := ⟨_, _, rfl, ⟨AP, cP, rfl, p1, p2, p3⟩, ⟨AI, cI, rfl, q1, q2, q3⟩⟩
      clear p3 q3 hget
      unfold maxLen at p2 q2
      have HX := Lib.hid hx
      clear hx hcc
      go_wp2_with (first | (refine wpList_load_mid rfl 30 (.tmp 11) rfl b (o + k * 5) rfl [.string (strOfNums x.name), .slice AP x.params.length cP, .int .i64 x.result, .int .i64 x.slots, .slice AI x.instrs.length cI] _ HR.out Tryd.underlying30 rfl info46s ?_; refine Hid.out ?_) | fail)
      refine Lib.hid ?_
      go_wp2_with fail
      refine (rightCode x _ _ (HV.out.below (HB.out.alloc HB.out.size _) (by have := HB.out.size; simp; omega))).mono ?_
      rintro e w1 ⟨rfl, hb1⟩
      have HB1 : Hid (Below w.heap.size w w1) := Lib.hid ((HB.out.alloc HB.out.size _).trans (hb1.mono (by simp; have := HB.out.size; omega)))
      clear hb1
      cases hq : okCd x with
      | true =>
        have HN := Lib.hid ((HT.out k x HX.out HK.out).trans hq)
        clear hq
        go_wp2
        go_roundw
        case rel => exact ⟨k + 1, by omega, by go_num, HN.out, HB1.out⟩
        case measure => simp [intOf]; omega
      | false =>
        have HN := Lib.hid (HA.out k x HX.out hq)
        clear hq
        go_wp2
        go_ret
        exact ⟨by rw [HN.out]; rfl, HB1.out⟩
    · obtain rfl : k = ts.length := by omega
      have HN := Lib.hid (HE.out.symm.trans HK.out)
      go_wp2
      go_ret
      exact ⟨by rw [HN.out]; rfl, HB.out⟩
set_option maxHeartbeats 800000 in
theorem right (m : Md) (V : Value) (w : World) (h : ModV w w.heap.size m V) : Calls Tryd.prog 13 #[V] w (Says (okMd m) w) := by
  obtain ⟨C, T, rfl, hC, hT⟩ := h
  have KC := Lib.hid (fun w' hb => allCodes C m.codes w' ((hC.below (w' := w') hb).more hb.size))
  have KT := Lib.hid (fun w' hb => allTexts T m.texts w' ((hT.below (w' := w') hb).more hb.size))
  obtain ⟨AC, cC, vs, rfl, p1, p2, p3, p4⟩ := hC
  obtain ⟨AT, cT, rfl, q1, q2, q3⟩ := hT
  clear p3 p4 q3
  unfold maxLen at p2 q2
  have HN : Hid (¬ (m.codes.length ≤ 64 ∧ m.texts.length ≤ 1024) → okMd m = false) := fun h => by
    rw [← Bool.not_eq_true]
    intro h2
    exact h ⟨(okMd_is h2).1, (okMd_is h2).2.1⟩
  have HY : Hid (m.codes.length ≤ 64 → m.texts.length ≤ 1024 → okMd m = (m.codes.all okCd && m.texts.all okX)) := fun h1 h2 => by simp only [okMd, h1, h2, decide_true, Bool.true_and]
  generalize okMd m = r at *
  by_cases g1 : m.codes.length ≤ 64
  · by_cases g2 : m.texts.length ≤ 1024
    · have hy := HY.out g1 g2
      have B1 := Lib.hid ((Below.refl w.heap.size w).alloc (Nat.le_refl _) (.cells #[.slice AC m.codes.length cC, .slice AT m.texts.length cT] 25))
      have CE : Hid (∀ w', Below (w.heap.size + 1) (w.alloc (.cells #[.slice AC m.codes.length cC, .slice AT m.texts.length cT] 25)) w' → w'.cell? ⟨w.heap.size, 1, none⟩ = some (.slice AT m.texts.length cT)) := fun w' hb => by
        have hx : w'.heap[w.heap.size]? = some (.cells #[.slice AC m.codes.length cC, .slice AT m.texts.length cT] 25) := by rw [hb.block _ (Nat.lt_succ_self _)]; exact heap_alloc_new w _
        rw [cell_of_row _ _ _ _ _ _ hx]; rfl
      have K1 := Lib.hid (KC.out _ B1.out)
      go_enter Tryd.func13, Tryd.ntmps13
      go_wp2_with fail
      refine K1.out.mono ?_
      rintro e w2 ⟨rfl, hb2⟩
      have B2 : Hid (Below w.heap.size w w2) := Lib.hid (B1.out.trans (hb2.mono B1.out.size))
      have K2 := Lib.hid (KT.out _ B2.out)
      have d1 := CE.out _ (hb2.mono (by simp))
      clear K1 hb2
      cases hq : m.codes.all okCd with
      | false =>
        rw [hq] at hy
        go_wp2
        go_ret
        exact ⟨by first | rfl | (rw [hy]; rfl), B2.out⟩
      | true =>
        rw [hq] at hy
        have HYY := Lib.hid hy
        clear hy hq
        go_wp2_with fail
        refine K2.out.mono ?_
        rintro e w3 ⟨rfl, hb3⟩
        have B3 : Hid (Below w.heap.size w w3) := Lib.hid (B2.out.trans (hb3.mono B2.out.size))
        clear hb3 K2
        go_wp2
        go_ret
        exact ⟨by rw [HYY.out]; rfl, B3.out⟩
    · have hr := HN.out (fun h => g2 h.2)
      go_enter Tryd.func13, Tryd.ntmps13
      go_wp2
      go_ret
      exact ⟨by first | rfl | (rw [hr]; rfl), (Below.refl _ _).alloc (Nat.le_refl _) _⟩
  · have hr := HN.out (fun h => g1 h.1)
    go_enter Tryd.func13, Tryd.ntmps13
    go_wp2
    go_ret
    exact ⟨by first | rfl | (rw [hr]; rfl), (Below.refl _ _).alloc (Nat.le_refl _) _⟩
theorem typed (t : Int) (w : World) : Calls Tryd.prog 28 #[.int .i64 t] w (Says (okT t) w) := by
  unfold okT
  go_enter Tryd.func28, Tryd.ntmps28
  go_wp2
  all_goals go_ret
  all_goals (refine ⟨?_, Below.refl _ _⟩; simp; omega)
set_option maxHeartbeats 1600000 in
theorem refCode (c : Cd) (V : Value) (w : World) (h : CodeV w w.heap.size c V) : Calls Tryd.prog 17 #[V] w (Says (okCd c) w) := by
  obtain ⟨P, I, rfl, hP, hI⟩ := h
  obtain ⟨AP, cP, rfl, p1, p2, p3⟩ := hP
  obtain ⟨AI, cI, rfl, q1, q2, q3⟩ := hI
  have HLP := Lib.hid p3
  have HLI := Lib.hid q3
  have HN := Lib.hid (@okCd_not c)
  have HYY := Lib.hid (@okCd_yes c)
  have hs : (strOfNums c.name).size = c.name.length := strOfNums_size _
  clear p3 q3
  unfold coC
  unfold maxLen at p2 q2
  generalize strOfNums c.name = nm at *
  generalize okCd c = r at *
  generalize c.result = rt at *
  have B0 : Hid (Below w.heap.size w (w.alloc (.cells #[.string nm, .slice AP c.params.length cP, .int .i64 rt, .int .i64 c.slots, .slice AI c.instrs.length cI] 30))) := Lib.hid ((Below.refl w.heap.size w).alloc (Nat.le_refl _) _)
  have CE : Hid (∀ w', Below (w.heap.size + 1) (w.alloc (.cells #[.string nm, .slice AP c.params.length cP, .int .i64 rt, .int .i64 c.slots, .slice AI c.instrs.length cI] 30)) w' → w'.cell? ⟨w.heap.size, 1, none⟩ = some (.slice AP c.params.length cP) ∧ w'.cell? ⟨w.heap.size, 4, none⟩ = some (.slice AI c.instrs.length cI)) := fun w' hb => by
    have hx : w'.heap[w.heap.size]? = some (.cells #[.string nm, .slice AP c.params.length cP, .int .i64 rt, .int .i64 c.slots, .slice AI c.instrs.length cI] 30) := by rw [hb.block _ (Nat.lt_succ_self _)]; exact heap_alloc_new w _
    exact ⟨by rw [cell_of_row _ _ _ _ _ _ hx]; rfl, by rw [cell_of_row _ _ _ _ _ _ hx]; rfl⟩
  have CF : Hid (∀ w', Below (w.heap.size + 1) (w.alloc (.cells #[.string nm, .slice AP c.params.length cP, .int .i64 rt, .int .i64 c.slots, .slice AI c.instrs.length cI] 30)) w' → w'.cell? ⟨w.heap.size, 2, none⟩ = some (.int .i64 rt) ∧ w'.cell? ⟨w.heap.size, 3, none⟩ = some (.int .i64 c.slots)) := fun w' hb => by
    have hx : w'.heap[w.heap.size]? = some (.cells #[.string nm, .slice AP c.params.length cP, .int .i64 rt, .int .i64 c.slots, .slice AI c.instrs.length cI] 30) := by rw [hb.block _ (Nat.lt_succ_self _)]; exact heap_alloc_new w _
    exact ⟨by rw [cell_of_row _ _ _ _ _ _ hx]; rfl, by rw [cell_of_row _ _ _ _ _ _ hx]; rfl⟩
  by_cases g1 : c.name.length ≤ 16
  · by_cases g2 : c.params.length ≤ 16
    · go_enter Tryd.func17, Tryd.ntmps17
      go_wp2_with fail
      refine (typed rt _).mono ?_
      rintro e w1 ⟨rfl, hb1⟩
      have C1 : Hid (Below (w.heap.size + 1) (w.alloc (.cells #[.string nm, .slice AP c.params.length cP, .int .i64 rt, .int .i64 c.slots, .slice AI c.instrs.length cI] 30)) w1) := Lib.hid (hb1.mono (by simp))
      have B1 : Hid (Below w.heap.size w w1) := Lib.hid (B0.out.trans (C1.out.mono (Nat.le_succ _)))
      obtain ⟨d1, d4⟩ := CE.out _ C1.out
      obtain ⟨d2, d3⟩ := CF.out _ C1.out
      clear hb1
      cases hq1 : okT rt with
      | true =>
        by_cases g4 : (c.params.length : Int) ≤ c.slots
        · by_cases g5 : c.slots ≤ 256
          · by_cases g3 : c.instrs.length ≤ 16384
            · have HY : Hid (r = (c.params.all okT && c.instrs.all okI)) := Lib.hid (HYY.out g1 g2 g3 g4 g5 (.inr hq1))
              go_wp2_with fail
              go_loopw [3] (fun i wr => ∃ k : Nat, i = .int .i64 k ∧ k ≤ c.params.length ∧ (c.params.take k).all okT = true ∧ Hid (Below (w.heap.size + 1) (w.alloc (.cells #[.string nm, .slice AP c.params.length cP, .int .i64 rt, .int .i64 c.slots, .slice AI c.instrs.length cI] 30)) wr)) (fun i _ => c.params.length - (intOf i).toNat)
              case atStart => exact ⟨0, rfl, Nat.zero_le _, rfl, C1.out⟩
              case round =>
                clear B1 C1
                obtain ⟨k, rfl, hk, hall, C1⟩ := hrel
                have B1 : Hid (Below w.heap.size w wr) := Lib.hid (B0.out.trans (C1.out.mono (Nat.le_succ _)))
                obtain ⟨d1, d4⟩ := CE.out _ C1.out
                have HK := Lib.hid hall
                clear hall
                by_cases hkl : k < c.params.length
                · obtain ⟨x, hx⟩ : ∃ x, c.params[k]? = some x := ⟨_, List.getElem?_eq_getElem hkl⟩
                  obtain ⟨ad, rfl, hB, hc0⟩ := HLP.out.2 k _ (tysV_at hx)
                  have hc : wr.cell? (ad.add k) = some (.int .i64 x) := by rw [B1.out.cell (by rw [addr_block]; exact hB)]; exact hc0
                  have HX := Lib.hid hx
                  clear hx hc0
                  go_wp2_with fail
                  refine (typed x _).mono ?_
                  rintro e w2 ⟨rfl, hb2⟩
                  have C2 := Lib.hid (C1.out.trans (hb2.mono (by have := C1.out.size; simpa using this)))
                  have B2 : Hid (Below w.heap.size w w2) := Lib.hid (B0.out.trans (C2.out.mono (Nat.le_succ _)))
                  clear hb2
                  cases hq2 : okT x with
                  | true =>
                    have HN := Lib.hid ((all_take HX.out HK.out).trans hq2)
                    clear hq2
                    go_wp2
                    go_roundw
                    case rel => exact ⟨k + 1, by go_num, by omega, HN.out, C2.out⟩
                    case measure => simp [intOf]; omega
                  | false =>
                    have hna := all_not HX.out hq2
                    rw [hna] at HY
                    have HR := Lib.hid HY.out
                    clear hq2 hna
                    go_wp2
                    go_ret
                    exact ⟨by rw [HR.out]; rfl, B2.out⟩
                · obtain rfl : k = c.params.length := by omega
                  have hpt : c.params.all okT = true := by have := HK.out; rwa [List.take_length] at this
                  rw [hpt] at HY
                  clear hpt
                  go_wp2_with fail
                  go_loopw [4] (fun i wr => ∃ k : Nat, i = .int .i64 k ∧ k ≤ c.instrs.length ∧ (c.instrs.take k).all okI = true ∧ Hid (Below (w.heap.size + 1) (w.alloc (.cells #[.string nm, .slice AP c.params.length cP, .int .i64 rt, .int .i64 c.slots, .slice AI c.instrs.length cI] 30)) wr)) (fun i _ => c.instrs.length - (intOf i).toNat)
                  case atStart => exact ⟨0, rfl, Nat.zero_le _, rfl, C1.out⟩
                  case round =>
                    clear B1 C1 HK d1 d4
                    obtain ⟨k, rfl, hk, hall, C1⟩ := hrel
                    have B1 : Hid (Below w.heap.size w wr) := Lib.hid (B0.out.trans (C1.out.mono (Nat.le_succ _)))
                    obtain ⟨d1, d4⟩ := CE.out _ C1.out
                    have HK := Lib.hid hall
                    clear hall
                    by_cases hkl2 : k < c.instrs.length
                    · obtain ⟨x, hx⟩ : ∃ x, c.instrs[k]? = some x := ⟨_, List.getElem?_eq_getElem hkl2⟩
                      have hx2 := insV_at hx
                      obtain ⟨b, o, rfl, hB, hcc⟩ := lies_flat HLI.out hx2.1
                      have hc : wr.cell? ⟨b, o + k * 2, none⟩ = some (.int .i64 x.1) := by rw [B1.out.cell hB]; exact hcc _ _ hx2.1
                      have HX := Lib.hid hx
                      have hqe : okI x = (decide (1 ≤ x.1) && decide (x.1 ≤ 18)) := rfl
                      clear hx hx2 hcc
                      by_cases y1 : 1 ≤ x.1
                      · by_cases y2 : x.1 ≤ 18
                        · have HN := Lib.hid ((all_take HX.out HK.out).trans (show okI x = true by rw [hqe]; simp [y1, y2]))
                          clear hqe
                          go_wp2
                          go_roundw
                          case rel => exact ⟨k + 1, by go_num, by omega, HN.out, C1.out⟩
                          case measure => simp [intOf]; omega
                        · have hna := all_not HX.out (show okI x = false by rw [hqe]; simp [y1, y2])
                          rw [hna] at HY
                          have HR := Lib.hid HY.out
                          clear hqe hna
                          go_wp2
                          go_ret
                          exact ⟨by rw [HR.out]; rfl, B1.out⟩
                      · have hna := all_not HX.out (show okI x = false by rw [hqe]; simp [y1])
                        rw [hna] at HY
                        have HR := Lib.hid HY.out
                        clear hqe hna
                        go_wp2
                        go_ret
                        exact ⟨by rw [HR.out]; rfl, B1.out⟩
                    · obtain rfl : k = c.instrs.length := by omega
                      have hpt : c.instrs.all okI = true := by have := HK.out; rwa [List.take_length] at this
                      rw [hpt] at HY
                      have HR := Lib.hid HY.out
                      clear hpt
                      go_wp2
                      go_ret
                      exact ⟨by rw [HR.out]; rfl, B1.out⟩
            · have hr := HN.out (fun h => g3 h.2.2.1)
              go_wp2
              go_ret
              exact ⟨by first | rfl | (rw [hr]; rfl), B1.out⟩
          · have hr := HN.out (fun h => g5 h.2.2.2.2.1)
            go_wp2
            go_ret
            exact ⟨by first | rfl | (rw [hr]; rfl), B1.out⟩
        · have hr := HN.out (fun h => g4 h.2.2.2.1)
          go_wp2
          go_ret
          exact ⟨by first | rfl | (rw [hr]; rfl), B1.out⟩
      | false =>
        by_cases g6 : rt = 0
        · have g7 := g6
          by_cases g4 : (c.params.length : Int) ≤ c.slots
          · by_cases g5 : c.slots ≤ 256
            · by_cases g3 : c.instrs.length ≤ 16384
              · have HY : Hid (r = (c.params.all okT && c.instrs.all okI)) := Lib.hid (HYY.out g1 g2 g3 g4 g5 (.inl g7))
                go_wp2_with fail
                go_loopw [3] (fun i wr => ∃ k : Nat, i = .int .i64 k ∧ k ≤ c.params.length ∧ (c.params.take k).all okT = true ∧ Hid (Below (w.heap.size + 1) (w.alloc (.cells #[.string nm, .slice AP c.params.length cP, .int .i64 rt, .int .i64 c.slots, .slice AI c.instrs.length cI] 30)) wr)) (fun i _ => c.params.length - (intOf i).toNat)
                case atStart => exact ⟨0, rfl, Nat.zero_le _, rfl, C1.out⟩
                case round =>
                  clear B1 C1
                  obtain ⟨k, rfl, hk, hall, C1⟩ := hrel
                  have B1 : Hid (Below w.heap.size w wr) := Lib.hid (B0.out.trans (C1.out.mono (Nat.le_succ _)))
                  obtain ⟨d1, d4⟩ := CE.out _ C1.out
                  have HK := Lib.hid hall
                  clear hall
                  by_cases hkl : k < c.params.length
                  · obtain ⟨x, hx⟩ : ∃ x, c.params[k]? = some x := ⟨_, List.getElem?_eq_getElem hkl⟩
                    obtain ⟨ad, rfl, hB, hc0⟩ := HLP.out.2 k _ (tysV_at hx)
                    have hc : wr.cell? (ad.add k) = some (.int .i64 x) := by rw [B1.out.cell (by rw [addr_block]; exact hB)]; exact hc0
                    have HX := Lib.hid hx
                    clear hx hc0
                    go_wp2_with fail
                    refine (typed x _).mono ?_
                    rintro e w2 ⟨rfl, hb2⟩
                    have C2 := Lib.hid (C1.out.trans (hb2.mono (by have := C1.out.size; simpa using this)))
                    have B2 : Hid (Below w.heap.size w w2) := Lib.hid (B0.out.trans (C2.out.mono (Nat.le_succ _)))
                    clear hb2
                    cases hq2 : okT x with
                    | true =>
                      have HN := Lib.hid ((all_take HX.out HK.out).trans hq2)
                      clear hq2
                      go_wp2
                      go_roundw
                      case rel => exact ⟨k + 1, by go_num, by omega, HN.out, C2.out⟩
                      case measure => simp [intOf]; omega
                    | false =>
                      have hna := all_not HX.out hq2
                      rw [hna] at HY
                      have HR := Lib.hid HY.out
                      clear hq2 hna
                      go_wp2
                      go_ret
                      exact ⟨by rw [HR.out]; rfl, B2.out⟩
                  · obtain rfl : k = c.params.length := by omega
                    have hpt : c.params.all okT = true := by have := HK.out; rwa [List.take_length] at this
                    rw [hpt] at HY
                    clear hpt
                    go_wp2_with fail
                    go_loopw [4] (fun i wr => ∃ k : Nat, i = .int .i64 k ∧ k ≤ c.instrs.length ∧ (c.instrs.take k).all okI = true ∧ Hid (Below (w.heap.size + 1) (w.alloc (.cells #[.string nm, .slice AP c.params.length cP, .int .i64 rt, .int .i64 c.slots, .slice AI c.instrs.length cI] 30)) wr)) (fun i _ => c.instrs.length - (intOf i).toNat)
                    case atStart => exact ⟨0, rfl, Nat.zero_le _, rfl, C1.out⟩
                    case round =>
                      clear B1 C1 HK d1 d4
                      obtain ⟨k, rfl, hk, hall, C1⟩ := hrel
                      have B1 : Hid (Below w.heap.size w wr) := Lib.hid (B0.out.trans (C1.out.mono (Nat.le_succ _)))
                      obtain ⟨d1, d4⟩ := CE.out _ C1.out
                      have HK := Lib.hid hall
                      clear hall
                      by_cases hkl2 : k < c.instrs.length
                      · obtain ⟨x, hx⟩ : ∃ x, c.instrs[k]? = some x := ⟨_, List.getElem?_eq_getElem hkl2⟩
                        have hx2 := insV_at hx
                        obtain ⟨b, o, rfl, hB, hcc⟩ := lies_flat HLI.out hx2.1
                        have hc : wr.cell? ⟨b, o + k * 2, none⟩ = some (.int .i64 x.1) := by rw [B1.out.cell hB]; exact hcc _ _ hx2.1
                        have HX := Lib.hid hx
                        have hqe : okI x = (decide (1 ≤ x.1) && decide (x.1 ≤ 18)) := rfl
                        clear hx hx2 hcc
                        by_cases y1 : 1 ≤ x.1
                        · by_cases y2 : x.1 ≤ 18
                          · have HN := Lib.hid ((all_take HX.out HK.out).trans (show okI x = true by rw [hqe]; simp [y1, y2]))
                            clear hqe
                            go_wp2
                            go_roundw
                            case rel => exact ⟨k + 1, by go_num, by omega, HN.out, C1.out⟩
                            case measure => simp [intOf]; omega
                          · have hna := all_not HX.out (show okI x = false by rw [hqe]; simp [y1, y2])
                            rw [hna] at HY
                            have HR := Lib.hid HY.out
                            clear hqe hna
                            go_wp2
                            go_ret
                            exact ⟨by rw [HR.out]; rfl, B1.out⟩
                        · have hna := all_not HX.out (show okI x = false by rw [hqe]; simp [y1])
                          rw [hna] at HY
                          have HR := Lib.hid HY.out
                          clear hqe hna
                          go_wp2
                          go_ret
                          exact ⟨by rw [HR.out]; rfl, B1.out⟩
                      · obtain rfl : k = c.instrs.length := by omega
                        have hpt : c.instrs.all okI = true := by have := HK.out; rwa [List.take_length] at this
                        rw [hpt] at HY
                        have HR := Lib.hid HY.out
                        clear hpt
                        go_wp2
                        go_ret
                        exact ⟨by rw [HR.out]; rfl, B1.out⟩
              · have hr := HN.out (fun h => g3 h.2.2.1)
                go_wp2
                go_ret
                exact ⟨by first | rfl | (rw [hr]; rfl), B1.out⟩
            · have hr := HN.out (fun h => g5 h.2.2.2.2.1)
              go_wp2
              go_ret
              exact ⟨by first | rfl | (rw [hr]; rfl), B1.out⟩
          · have hr := HN.out (fun h => g4 h.2.2.2.1)
            go_wp2
            go_ret
            exact ⟨by first | rfl | (rw [hr]; rfl), B1.out⟩
        · have hr := HN.out (fun h => by rcases h.2.2.2.2.2 with h | h; exact g6 h; rw [hq1] at h; cases h)
          go_wp2
          go_ret
          exact ⟨by first | rfl | (rw [hr]; rfl), B1.out⟩
    · have hr := HN.out (fun h => g2 h.2.1)
      go_enter Tryd.func17, Tryd.ntmps17
      go_wp2
      go_ret
      exact ⟨by first | rfl | (rw [hr]; rfl), B0.out⟩
  · have hr := HN.out (fun h => g1 h.1)
    go_enter Tryd.func17, Tryd.ntmps17
    go_wp2
    go_ret
    exact ⟨by first | rfl | (rw [hr]; rfl), B0.out⟩
set_option maxHeartbeats 1600000 in
theorem refRight (m : Md) (V : Value) (w : World) (h : ModV w w.heap.size m V) : Calls Tryd.prog 10 #[V] w (Says (okMd m) w) := by
  obtain ⟨C, T, rfl, hC, hT⟩ := h
  obtain ⟨AC, cC, vs, rfl, p1, p2, p3, p4⟩ := hC
  obtain ⟨AT, cT, rfl, q1, q2, q3⟩ := hT
  have HL := Lib.hid p3
  have HS := Lib.hid p4
  have HG := Lib.hid q3
  clear p3 p4 q3
  unfold maxLen at p2 q2
  have HN : Hid (¬ (m.codes.length ≤ 64 ∧ m.texts.length ≤ 1024) → okMd m = false) := fun h => by
    rw [← Bool.not_eq_true]
    intro h2
    exact h ⟨(okMd_is h2).1, (okMd_is h2).2.1⟩
  have HYY : Hid (m.codes.length ≤ 64 → m.texts.length ≤ 1024 → okMd m = (m.codes.all okCd && m.texts.all okX)) := fun h1 h2 => by simp only [okMd, h1, h2, decide_true, Bool.true_and]
  have HXE : Hid (∀ s, okX s = decide (s.length ≤ 64)) := fun s => rfl
  have B0 : Hid (Below w.heap.size w (w.alloc (.cells #[.slice AC m.codes.length cC, .slice AT m.texts.length cT] 25))) := Lib.hid ((Below.refl w.heap.size w).alloc (Nat.le_refl _) _)
  have CE : Hid (∀ w', Below (w.heap.size + 1) (w.alloc (.cells #[.slice AC m.codes.length cC, .slice AT m.texts.length cT] 25)) w' → w'.cell? ⟨w.heap.size, 0, none⟩ = some (.slice AC m.codes.length cC) ∧ w'.cell? ⟨w.heap.size, 1, none⟩ = some (.slice AT m.texts.length cT)) := fun w' hb => by
    have hx : w'.heap[w.heap.size]? = some (.cells #[.slice AC m.codes.length cC, .slice AT m.texts.length cT] 25) := by rw [hb.block _ (Nat.lt_succ_self _)]; exact heap_alloc_new w _
    exact ⟨by rw [cell_of_row _ _ _ _ _ _ hx]; rfl, by rw [cell_of_row _ _ _ _ _ _ hx]; rfl⟩
  generalize okMd m = r at *
  by_cases g1 : m.codes.length ≤ 64
  · by_cases g2 : m.texts.length ≤ 1024
    · have HY := Lib.hid (HYY.out g1 g2)
      go_enter Tryd.func10, Tryd.ntmps10
      go_upto_region 3 with fail
      have wsz : Hid (w.heap.size + 1 ≤ (w.alloc (.cells #[.slice AC m.codes.length cC, .slice AT m.texts.length cT] 25)).heap.size) := Lib.hid (by simp)
      generalize w.alloc (.cells #[.slice AC m.codes.length cC, .slice AT m.texts.length cT] 25) = wa at *
      go_wp2_with fail
      go_loopw [3] (fun i wr => ∃ k : Nat, i = .int .i64 k ∧ k ≤ m.texts.length ∧ (m.texts.take k).all okX = true ∧ Hid (Below (w.heap.size + 1) wa wr)) (fun i _ => m.texts.length - (intOf i).toNat)
      case atStart => exact ⟨0, rfl, Nat.zero_le _, rfl, Below.refl _ _⟩
      case round =>
        obtain ⟨k, rfl, hk, hall, C1⟩ := hrel
        have B1 : Hid (Below w.heap.size w wr) := Lib.hid (B0.out.trans (C1.out.mono (Nat.le_succ _)))
        obtain ⟨c0, c1⟩ := CE.out _ C1.out
        have HK := Lib.hid hall
        clear hall
        by_cases hkl : k < m.texts.length
        · obtain ⟨x, hx⟩ : ∃ x, m.texts[k]? = some x := ⟨_, List.getElem?_eq_getElem hkl⟩
          obtain ⟨ad, A', c', rfl, hB, hc0, y1, y2, _⟩ := HG.out.2 k x hx
          have hc : wr.cell? (ad.add k) = some (.slice A' x.length c') := by rw [B1.out.cell (by rw [addr_block]; exact hB)]; exact hc0
          have HX := Lib.hid hx
          unfold maxLen at y2
          clear hx hc0
          by_cases hq : x.length ≤ 64
          · have HN := Lib.hid ((all_take HX.out HK.out).trans (show okX x = true by rw [HXE.out]; simpa using hq))
            go_wp2
            go_roundw
            case rel => exact ⟨k + 1, by go_num, by omega, HN.out, C1.out⟩
            case measure => simp [intOf]; omega
          · have hna := all_not HX.out (show okX x = false by rw [HXE.out]; simpa using hq)
            rw [hna, Bool.and_false] at HY
            have HR := Lib.hid HY.out
            clear hna
            go_wp2
            go_ret
            exact ⟨by rw [HR.out]; rfl, B1.out⟩
        · obtain rfl : k = m.texts.length := by omega
          have hpt : m.texts.all okX = true := by have := HK.out; rwa [List.take_length] at this
          rw [hpt, Bool.and_true] at HY
          clear hpt HK
          go_wp2_with fail
          generalize wr = wo at *
          go_loopw [4] (fun i wr => ∃ k : Nat, i = .int .i64 k ∧ k ≤ m.codes.length ∧ (m.codes.take k).all okCd = true ∧ Hid (Below (w.heap.size + 1) wa wr)) (fun i _ => m.codes.length - (intOf i).toNat)
          case atStart => exact ⟨0, rfl, Nat.zero_le _, rfl, C1.out⟩
          case round =>
            clear c0 c1 C1 B1
            obtain ⟨k, rfl, hk, hall, C1⟩ := hrel
            have B1 : Hid (Below w.heap.size w wr) := Lib.hid (B0.out.trans (C1.out.mono (Nat.le_succ _)))
            obtain ⟨c0, c1⟩ := CE.out _ C1.out
            have HK := Lib.hid hall
            clear hall
            by_cases hkl2 : k < m.codes.length
            · obtain ⟨x, hx⟩ : ∃ x, m.codes[k]? = some x := ⟨_, List.getElem?_eq_getElem hkl2⟩
              obtain ⟨P, I, hP, hI, hget⟩ := HS.out.get hx
              obtain ⟨AP, cP, rfl, r1, r2, r3⟩ := hP
              obtain ⟨AI, cI, rfl, s1, s2, s3⟩ := hI
              obtain ⟨b, o, rfl, hB, hcc⟩ := lies_flat HL.out (hget 0 _ rfl)
              have HR : Hid (wr.rangeAt b (o + k * 5) (coC x (.slice AP x.params.length cP) (.slice AI x.instrs.length cI))) := fun j u hu => by
                show wr.cell? ⟨b, o + k * 5 + j, none⟩ = some u
                rw [Nat.add_assoc, B1.out.cell hB]
                exact hcc _ _ (hget j u hu)
              have HV : Hid (CodeV w w.heap.size x (.agg #[.string (strOfNums x.name), .slice AP x.params.length cP, .int .i64 x.result, .int .i64 x.slots, .slice AI x.instrs.length cI])) := ⟨_, _, rfl, ⟨AP, cP, rfl, r1, r2, r3⟩, ⟨AI, cI, rfl, s1, s2, s3⟩⟩
              have HX := Lib.hid hx
              have K := Lib.hid (refCode x _ wr (HV.out.below B1.out B1.out.size))
              clear r3 s3 hget hx hcc
              unfold maxLen at r2 s2
              go_wp2_with (first | (refine wpList_load_mid rfl 30 (.tmp 40) rfl b (o + k * 5) rfl [.string (strOfNums x.name), .slice AP x.params.length cP, .int .i64 x.result, .int .i64 x.slots, .slice AI x.instrs.length cI] _ HR.out Tryd.underlying30 rfl info46s ?_; refine Hid.out ?_) | fail)
              refine Lib.hid ?_
              go_wp2_with fail
              refine K.out.mono ?_
              clear K
              rintro e w2 ⟨rfl, hb2⟩
              have hs1 := C1.out.size
              have C2 := Lib.hid (C1.out.trans (hb2.mono (by have := wsz.out; omega)))
              have B2 := Lib.hid (B0.out.trans (C2.out.mono (Nat.le_succ _)))
              clear hb2 hs1
              cases hq2 : okCd x with
              | true =>
                have HN2 := Lib.hid ((all_take HX.out HK.out).trans hq2)
                clear hq2
                go_wp2
                go_roundw
                case rel => exact ⟨k + 1, by go_num, by omega, HN2.out, C2.out⟩
                case measure => simp [intOf]; omega
              | false =>
                have hna := all_not HX.out hq2
                rw [hna] at HY
                have HR2 := Lib.hid HY.out
                clear hq2 hna
                go_wp2
                go_ret
                exact ⟨by rw [HR2.out]; rfl, B2.out⟩
            · obtain rfl : k = m.codes.length := by omega
              have hpt : m.codes.all okCd = true := by have := HK.out; rwa [List.take_length] at this
              rw [hpt] at HY
              have HR2 := Lib.hid HY.out
              clear hpt
              go_wp2
              go_ret
              exact ⟨by rw [HR2.out]; rfl, B1.out⟩
    · have hr := HN.out (fun h => g2 h.2)
      go_enter Tryd.func10, Tryd.ntmps10
      go_wp2
      go_ret
      exact ⟨by first | rfl | (rw [hr]; rfl), B0.out⟩
  · have hr := HN.out (fun h => g1 h.1)
    go_enter Tryd.func10, Tryd.ntmps10
    go_wp2
    go_ret
    exact ⟨by first | rfl | (rw [hr]; rfl), B0.out⟩
theorem byt_inj : ∀ {a b : List Int}, Byt a → Byt b → Lib.bytesOf a = Lib.bytesOf b → a = b
  | [], [], _, _, _ => rfl
  | [], _ :: _, _, _, h => by simp [Lib.bytesOf] at h
  | _ :: _, [], _, _, h => by simp [Lib.bytesOf] at h
  | x :: a, y :: b, ha, hb, h => by
    have hx := ha x (List.mem_cons_self ..)
    have hy := hb y (List.mem_cons_self ..)
    simp only [Lib.bytesOf, List.map_cons, List.cons.injEq] at h
    have h1 := congrArg UInt8.toNat h.1
    simp only [UInt8.toNat_ofNat'] at h1
    rw [byt_inj (ha.sub fun z hz => List.mem_cons_of_mem _ hz) (hb.sub fun z hz => List.mem_cons_of_mem _ hz) h.2, show x = y by omega]
theorem str_eq {a b : List Int} (ha : Byt a) (hb : Byt b) : ((strOfNums a).toList == (strOfNums b).toList) = decide (a = b) := by
  rw [Lib.strOfNums_toList, Lib.strOfNums_toList, Bool.eq_iff_iff]
  simp only [beq_iff_eq, decide_eq_true_eq]
  exact ⟨byt_inj ha hb, fun h => by rw [h]⟩
/-- the signs, from 1 on -/
def signsL : List (List Int) := [[43], [45], [42], [47], [37], [60], [60, 61], [62], [62, 61], [61, 61], [33, 61], [33]]
/-- the table of signs lies in memory -/
def Tab (w : World) : Prop := 0 < w.heap.size ∧ w.rangeAt 0 0 (signsL.map fun s => Value.string (strOfNums s))
theorem Tab.below {w w' : World} {B : Nat} (h : Tab w) (hb : Below B w w') (hB : 0 < B) : Tab w' :=
  ⟨Nat.lt_of_lt_of_le h.1 hb.size, fun j u hu => by rw [hb.cell (by show 0 < B; exact hB)]; exact h.2 j u hu⟩
theorem signs_byt : ∀ s ∈ signsL, Byt s := by
  unfold signsL Byt
  decide
/-- the sign with a number -/
def signM (n : Int) : List Int := if 1 ≤ n ∧ n ≤ 12 then signsL.getD (n - 1).toNat [] else []
set_option maxHeartbeats 400000 in
theorem sign (n : Int) (w : World) (h1 : -9223372036854775808 ≤ n) (h2 : n ≤ 9223372036854775807) (ht : Tab w) : Calls Tryd.prog 40 #[.int .i64 n] w fun e w' => e = .returned (.string (strOfNums (signM n))) ∧ w = w' := by
  by_cases hn : 1 ≤ n ∧ n ≤ 12
  · obtain ⟨k, hkn⟩ : ∃ k : Nat, n = (k : Int) + 1 := ⟨(n - 1).toNat, by omega⟩
    have hk : k < 12 := by omega
    obtain ⟨s, hs⟩ : ∃ s, signsL[k]? = some s := ⟨_, List.getElem?_eq_getElem (show k < signsL.length from hk)⟩
    have hm : strOfNums (signM n) = strOfNums s := by
      unfold signM
      rw [if_pos hn, show (n - 1).toNat = k by omega]
      simp [List.getD, hs]
    have hc : w.cell? ⟨0, n.toNat - 1, none⟩ = some (.string (strOfNums s)) := by
      have := ht.2 k (.string (strOfNums s)) (by simp [hs])
      rw [show n.toNat - 1 = k by omega]
      simpa using this
    rw [hm]
    have e2 : wrap64 (n - 1) = k := by unfold wrap64; omega
    have e3 : ¬ n < 1 := by omega
    have e4 : ¬ 12 < n := by omega
    clear hm hs ht hkn hn h1 h2
    generalize strOfNums s = z at *
    go_enter Tryd.func40, Tryd.ntmps40
    go_wp2
    go_ret
    exact ⟨rfl, rfl⟩
  · have hm : strOfNums (signM n) = ⟨#[]⟩ := by
      unfold signM
      rw [if_neg hn]
      rfl
    rw [hm]
    clear hm ht
    by_cases h0 : n < 1
    · go_enter Tryd.func40, Tryd.ntmps40
      go_wp2
      go_ret
      exact ⟨rfl, rfl⟩
    · have h3 : 12 < n := by omega
      go_enter Tryd.func40, Tryd.ntmps40
      go_wp2
      go_ret
      exact ⟨rfl, rfl⟩
/-- a call that answers a bool, whatever it is -/
def Some2 (w : World) (e : Ending) (w' : World) : Prop := ∃ b, Says b w e w'
set_option maxHeartbeats 1600000 in
theorem great (m : Md) (V : Value) (w : World) (h : ModV w w.heap.size m V) : Calls Tryd.prog 12 #[V] w (Some2 w) := by
  obtain ⟨C, T, rfl, hC, hT⟩ := h
  obtain ⟨AC, cC, vs, rfl, p1, p2, p3, p4⟩ := hC
  obtain ⟨AT, cT, rfl, q1, q2, q3⟩ := hT
  have HL := Lib.hid p3
  have HS := Lib.hid p4
  have HG := Lib.hid q3
  clear p3 p4 q3
  unfold maxLen at p2 q2
  have HQ : Hid (∀ w', Below (w.heap.size + 1) (w.alloc (.cells #[.slice AC m.codes.length cC, .slice AT m.texts.length cT] 25)) w' → w'.cell? ⟨w.heap.size, 0, none⟩ = some (.slice AC m.codes.length cC) ∧ w'.cell? ⟨w.heap.size, 1, none⟩ = some (.slice AT m.texts.length cT)) := fun w' hb => by
    have hx : w'.heap[w.heap.size]? = some (.cells #[.slice AC m.codes.length cC, .slice AT m.texts.length cT] 25) := by rw [hb.block _ (Nat.lt_succ_self _)]; exact heap_alloc_new w _
    exact ⟨by rw [cell_of_row _ _ _ _ _ _ hx]; rfl, by rw [cell_of_row _ _ _ _ _ _ hx]; rfl⟩
  have HB0 : Hid (Below w.heap.size w (w.alloc (.cells #[.slice AC m.codes.length cC, .slice AT m.texts.length cT] 25))) := Lib.hid ((Below.refl _ _).alloc (Nat.le_refl _) _)
  go_enter Tryd.func12, Tryd.ntmps12
  go_upto_region 2 with fail
  generalize w.alloc (.cells #[.slice AC m.codes.length cC, .slice AT m.texts.length cT] 25) = wa at *
  go_wp2_with fail
  go_loopw [3, 4] (fun n i wr => ∃ (z : Int) (k : Nat), n = .int .i64 z ∧ i = .int .i64 k ∧ 0 ≤ z ∧ z ≤ 1000000 ∧ k ≤ m.codes.length ∧ Below (w.heap.size + 1) wa wr) (fun _ i _ => m.codes.length - (intOf i).toNat)
  case atStart => exact ⟨0, 0, rfl, rfl, by omega, by omega, Nat.zero_le _, Below.refl _ _⟩
  case round =>
    obtain ⟨z, k, rfl, rfl, z0, z1, hk, hb⟩ := hrel
    have HB := Lib.hid hb
    have HBW : Hid (Below w.heap.size w wr) := Lib.hid (HB0.out.trans (hb.mono (Nat.le_succ _)))
    obtain ⟨c0, c1⟩ := HQ.out _ hb
    clear hb
    by_cases hkl : k < m.codes.length
    · by_cases hz : z < 200000
      · obtain ⟨x, hx⟩ : ∃ x, m.codes[k]? = some x := ⟨_, List.getElem?_eq_getElem hkl⟩
        obtain ⟨P, I, hP, hI, hget⟩ := HS.out.get hx
        obtain ⟨AP, cP, rfl, r1, r2, _⟩ := hP
        obtain ⟨AI, cI, rfl, s1, s2, _⟩ := hI
        obtain ⟨b, o, rfl, hB, hcc⟩ := lies_flat HL.out (hget 0 _ rfl)
        unfold maxLen at r2 s2
        have e0 : wr.cell? ⟨b, o + k * 5, none⟩ = some (.string (strOfNums x.name)) := by rw [HBW.out.cell hB]; exact hcc _ _ (hget 0 _ rfl)
        have e1 : wr.cell? ⟨b, o + k * 5 + 1, none⟩ = some (.slice AP x.params.length cP) := by rw [HBW.out.cell hB, Nat.add_assoc]; exact hcc _ _ (hget 1 _ rfl)
        have e4 : wr.cell? ⟨b, o + k * 5 + 4, none⟩ = some (.slice AI x.instrs.length cI) := by rw [HBW.out.cell hB, Nat.add_assoc]; exact hcc _ _ (hget 4 _ rfl)
        have hsz : (strOfNums x.name).size = x.name.length := strOfNums_size _
        clear hx hget hcc
        generalize strOfNums x.name = nm at *
        go_upto_region 5 with fail
        go_quiet (fail)
        have HBN : Hid (Below (w.heap.size + 1) wa (wr.drewN nq)) := Lib.hid (below_drewN HB.out nq)
        go_wp2
        go_roundw
        case rel => exact ⟨_, k + 1, rfl, by go_num, by (split <;> split <;> split <;> omega), by (split <;> split <;> split <;> omega), by omega, HBN.out⟩
        case measure => simp [intOf]; omega
      · have hz2 : 200000 ≤ z := by omega
        go_wp2_with fail
        go_loopw [3, 5] (fun n i wr => ∃ (z : Int) (k : Nat), n = .int .i64 z ∧ i = .int .i64 k ∧ 0 ≤ z ∧ z ≤ 2000000 ∧ k ≤ m.texts.length ∧ Below (w.heap.size + 1) wa wr) (fun _ i _ => m.texts.length - (intOf i).toNat)
        case atStart => exact ⟨z, 0, rfl, rfl, by omega, by omega, Nat.zero_le _, HB.out⟩
        case round =>
          clear HB HBW c0 c1
          obtain ⟨z, k, rfl, rfl, z0, z1, hk, hb⟩ := hrel
          have HB := Lib.hid hb
          have HBW : Hid (Below w.heap.size w wr) := Lib.hid (HB0.out.trans (hb.mono (Nat.le_succ _)))
          obtain ⟨c0, c1⟩ := HQ.out _ hb
          clear hb
          by_cases hkl : k < m.texts.length
          · by_cases hz : z < 200000
            · obtain ⟨x, hx⟩ : ∃ x, m.texts[k]? = some x := ⟨_, List.getElem?_eq_getElem hkl⟩
              obtain ⟨ad, A', c', rfl, hB, hc0, g1, g2, _⟩ := HG.out.2 k x hx
              have e0 : wr.cell? (ad.add k) = some (.slice A' x.length c') := by rw [HBW.out.cell (by rw [addr_block]; exact hB)]; exact hc0
              unfold maxLen at g2
              clear hx hc0
              go_wp2
              all_goals (
                go_roundw
                case rel => exact ⟨_, k + 1, rfl, by go_num, by omega, by omega, by omega, HB.out⟩
                case measure => simp [intOf]; omega)
            · go_wp2
              all_goals go_ret
              all_goals exact ⟨_, rfl, HBW.out⟩
          · go_wp2
            all_goals go_ret
            all_goals exact ⟨_, rfl, HBW.out⟩
    · skip
      go_wp2_with fail
      go_loopw [3, 5] (fun n i wr => ∃ (z : Int) (k : Nat), n = .int .i64 z ∧ i = .int .i64 k ∧ 0 ≤ z ∧ z ≤ 2000000 ∧ k ≤ m.texts.length ∧ Below (w.heap.size + 1) wa wr) (fun _ i _ => m.texts.length - (intOf i).toNat)
      case atStart => exact ⟨z, 0, rfl, rfl, by omega, by omega, Nat.zero_le _, HB.out⟩
      case round =>
        clear HB HBW c0 c1
        obtain ⟨z, k, rfl, rfl, z0, z1, hk, hb⟩ := hrel
        have HB := Lib.hid hb
        have HBW : Hid (Below w.heap.size w wr) := Lib.hid (HB0.out.trans (hb.mono (Nat.le_succ _)))
        obtain ⟨c0, c1⟩ := HQ.out _ hb
        clear hb
        by_cases hkl : k < m.texts.length
        · by_cases hz : z < 200000
          · obtain ⟨x, hx⟩ : ∃ x, m.texts[k]? = some x := ⟨_, List.getElem?_eq_getElem hkl⟩
            obtain ⟨ad, A', c', rfl, hB, hc0, g1, g2, _⟩ := HG.out.2 k x hx
            have e0 : wr.cell? (ad.add k) = some (.slice A' x.length c') := by rw [HBW.out.cell (by rw [addr_block]; exact hB)]; exact hc0
            unfold maxLen at g2
            clear hx hc0
            go_wp2
            all_goals (
              go_roundw
              case rel => exact ⟨_, k + 1, rfl, by go_num, by omega, by omega, by omega, HB.out⟩
              case measure => simp [intOf]; omega)
          · go_wp2
            all_goals go_ret
            all_goals exact ⟨_, rfl, HBW.out⟩
        · go_wp2
          all_goals go_ret
          all_goals exact ⟨_, rfl, HBW.out⟩
end Go.Proofs.YtilmidjkjgeoeaaDoor
