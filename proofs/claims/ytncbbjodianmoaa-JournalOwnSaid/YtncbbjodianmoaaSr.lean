/- Rows of pairs in memory whose blocks are of a given set, and their laws. Conditions: those in each theorem. -/
import Derived.Test.YtncbbjodianmoaaSi
namespace Go.Proofs.Ytncbbjodianmoaa
open Go.RowKit
set_option linter.unusedVariables false

/-- the blocks from lo on, below hi -/
abbrev Fr (lo hi : Nat) : Nat → Prop := fun b => lo ≤ b ∧ b < hi

def LiesD (w : World) (D : Nat → Prop) (A : Option Addr) (c : Nat) (l : List Value) : Prop :=
  (A = none → c = 0) ∧ ∀ j u, l[j]? = some u → ∃ ad, A = some ad ∧ D ad.block ∧ w.cell? (ad.add j) = some u
theorem LiesD.keep {w w' : World} {D D' : Nat → Prop} {A : Option Addr} {c : Nat} {l : List Value} (h : LiesD w D A c l) (hk : ∀ b, D b → w'.heap[b]? = w.heap[b]?) (hD : ∀ b, D b → D' b) : LiesD w' D' A c l :=
  ⟨h.1, fun j u hu => by
    obtain ⟨ad, e, hd, hc⟩ := h.2 j u hu
    exact ⟨ad, e, hD _ hd, by rw [World.cell?_of_block (a := ad.add j) (w := w) (by rw [addr_block]; exact hk _ hd)]; exact hc⟩⟩
theorem LiesD.lies {w : World} {D : Nat → Prop} {B : Nat} {A : Option Addr} {c : Nat} {l : List Value} (h : LiesD w D A c l) (hD : ∀ b, D b → b < B) : Lies w B A c l :=
  ⟨h.1, fun j u hu => by
    obtain ⟨ad, e, hd, hc⟩ := h.2 j u hu
    exact ⟨ad, e, hD _ hd, hc⟩⟩
/-- the slice u reads as the byte string l, in blocks of D -/
def SBD (w : World) (D : Nat → Prop) (u : Value) (l : List Int) : Prop := ∃ A c, u = .slice A l.length c ∧ l.length ≤ c ∧ c ≤ maxLen ∧ LiesD w D A c (cellsOf l) ∧ Byt l
theorem SBD.keep {w w' : World} {D D' : Nat → Prop} {u : Value} {l : List Int} (h : SBD w D u l) (hk : ∀ b, D b → w'.heap[b]? = w.heap[b]?) (hD : ∀ b, D b → D' b) : SBD w' D' u l := by
  obtain ⟨A, c, h1, h2, h3, h4, h5⟩ := h
  exact ⟨A, c, h1, h2, h3, h4.keep hk hD, h5⟩
theorem SBD.sb {w : World} {D : Nat → Prop} {B : Nat} {u : Value} {l : List Int} (h : SBD w D u l) (hD : ∀ b, D b → b < B) : SB w B u l := by
  obtain ⟨A, c, h1, h2, h3, h4, h5⟩ := h
  exact ⟨A, c, h1, h2, h3, h4.lies hD, h5⟩
theorem SBD.fr {w w' : World} {lo : Nat} {u : Value} {l : List Int} (h : SBD w (Fr lo w.heap.size) u l) (hb : Below w.heap.size w w') : SBD w' (Fr lo w'.heap.size) u l :=
  h.keep (fun b hb' => hb.block b hb'.2) fun b hb' => ⟨hb'.1, Nat.lt_of_lt_of_le hb'.2 hb.size⟩
theorem SBD.lo {w : World} {lo lo' hi : Nat} {u : Value} {l : List Int} (h : SBD w (Fr lo hi) u l) (hl : lo' ≤ lo) : SBD w (Fr lo' hi) u l :=
  h.keep (fun _ _ => rfl) fun _ hb => ⟨Nat.le_trans hl hb.1, hb.2⟩
/-- the cells vs read as the pairs l, in blocks of D -/
inductive PsCD (w : World) (D : Nat → Prop) : List PR → List Value → Prop
  | nil : PsCD w D [] []
  | cons {p : PR} {l : List PR} {u v : Value} {vs : List Value} (h1 : SBD w D u p.1) (h2 : SBD w D v p.2) (h3 : PsCD w D l vs) : PsCD w D (p :: l) (u :: v :: vs)
theorem PsCD.mono {w w' : World} {D D' : Nat → Prop} (hm : ∀ u l, SBD w D u l → SBD w' D' u l) {l : List PR} {vs : List Value} (h : PsCD w D l vs) : PsCD w' D' l vs := by
  induction h with
  | nil => exact .nil
  | cons h1 h2 _ ih => exact .cons (hm _ _ h1) (hm _ _ h2) ih
theorem PsCD.append {w : World} {D : Nat → Prop} {l m : List PR} {vs us : List Value} (h : PsCD w D l vs) (h' : PsCD w D m us) : PsCD w D (l ++ m) (vs ++ us) := by
  induction h with
  | nil => exact h'
  | cons h1 h2 _ ih => exact .cons h1 h2 ih
theorem PsCD.psc {w : World} {D : Nat → Prop} {B : Nat} (hD : ∀ b, D b → b < B) {l : List PR} {vs : List Value} (h : PsCD w D l vs) : PsC w B l vs := by
  induction h with
  | nil => exact .nil
  | cons h1 h2 _ ih => exact .cons (h1.sb hD) (h2.sb hD) ih
/-- the slice of pairs at A, of capacity c, reads as ls, all of it in blocks of D -/
def PrsD (w : World) (D : Nat → Prop) (A : Option Addr) (c : Nat) (ls : List PR) : Prop := ∃ vs, LiesD w D A c vs ∧ PsCD w D ls vs
theorem PrsD.keep {w w' : World} {D D' : Nat → Prop} {A : Option Addr} {c : Nat} {ls : List PR} (h : PrsD w D A c ls) (hk : ∀ b, D b → w'.heap[b]? = w.heap[b]?) (hD : ∀ b, D b → D' b) : PrsD w' D' A c ls := by
  obtain ⟨vs, h1, h2⟩ := h
  exact ⟨vs, h1.keep hk hD, h2.mono fun u l h => h.keep hk hD⟩
theorem PrsD.prs {w : World} {D : Nat → Prop} {B : Nat} {A : Option Addr} {c : Nat} {ls : List PR} (h : PrsD w D A c ls) (hD : ∀ b, D b → b < B) : Prs w B A c ls := by
  obtain ⟨vs, h1, h2⟩ := h
  exact ⟨vs, h1.lies hD, h2.psc hD⟩
theorem PrsD.fr {w w' : World} {lo : Nat} {A : Option Addr} {c : Nat} {ls : List PR} (h : PrsD w (Fr lo w.heap.size) A c ls) (hb : Below w.heap.size w w') : PrsD w' (Fr lo w'.heap.size) A c ls :=
  h.keep (fun b hb' => hb.block b hb'.2) fun b hb' => ⟨hb'.1, Nat.lt_of_lt_of_le hb'.2 hb.size⟩
theorem PrsD.lo {w : World} {lo lo' hi : Nat} {A : Option Addr} {c : Nat} {ls : List PR} (h : PrsD w (Fr lo hi) A c ls) (hl : lo' ≤ lo) : PrsD w (Fr lo' hi) A c ls :=
  h.keep (fun _ _ => rfl) fun _ hb => ⟨Nat.le_trans hl hb.1, hb.2⟩
theorem PrsD.here {w : World} {lo : Nat} {A : Option Addr} {c : Nat} {ls : List PR} (h : PrsD w (Fr lo w.heap.size) A c ls) : Prs w w.heap.size A c ls := h.prs fun _ hb => hb.2
theorem PrsD.nothing (w : World) (D : Nat → Prop) : PrsD w D none 0 [] := ⟨[], ⟨fun _ => rfl, fun j u h => by simp at h⟩, .nil⟩

/-- what a call owns lies in its own blocks -/
theorem own_liesD {w : World} {base : Nat} {e : TypeId} {v : Value} {n : Nat} {xs : List Value} (h : w.ownsRow base e 1 v n xs) :
    ∃ A c, v = .slice A n c ∧ n ≤ c ∧ c ≤ maxLen ∧ LiesD w (Fr base w.heap.size) A c xs := by
  rcases h.2 with ⟨rfl, rfl⟩ | ⟨g, cap, cur, rfl, hb, hg, hn, hm, hs, ht⟩
  · have : xs = [] := List.eq_nil_of_length_eq_zero (by simpa using h.1)
    subst this
    exact ⟨none, 0, rfl, Nat.le_refl _, Nat.zero_le _, ⟨fun _ => rfl, fun j u h => by simp at h⟩⟩
  · exact ⟨_, _, rfl, hn, hm, (fun e => by cases e), fun j u hu => ⟨_, rfl, h.lt g rfl, h.cells rfl j u hu⟩⟩
/-- what a call returns that makes a byte string anew -/
def NewBytesD (w : World) (l : List Int) (e : Ending) (w' : World) : Prop :=
  ∃ A' c', e = .returned (.slice A' l.length c') ∧ l.length ≤ c' ∧ c' ≤ maxLen ∧ LiesD w' (Fr w.heap.size w'.heap.size) A' c' (cellsOf l) ∧ Below w.heap.size w w'
theorem cloneD (A : Option Addr) (l : List Int) (c : Nat) (w : World) (hl : Lies w w.heap.size A c (cellsOf l)) (hlen : l.length ≤ 140737488355328) :
    Calls Try.prog 44 #[.slice A l.length c] w (NewBytesD w l) :=
  (cloneO A l c w hl hlen).mono fun e w' h => by
    obtain ⟨v, rfl, h1, h2⟩ := h
    obtain ⟨A', c', rfl, g1, g2, g3⟩ := own_liesD h1
    exact ⟨A', c', rfl, g1, g2, g3, h2⟩
/-- the row lies in a block of pairs -/
def RowF (w : World) (A : Option Addr) : Prop := ∀ ad, A = some ad → ∃ cs z, w.heap[ad.block]? = some (.cells cs 47 z)
theorem RowF.on {w w' : World} {A : Option Addr} (h : RowF w A) (hb : Below w.heap.size w w') : RowF w' A := fun ad e => by
  obtain ⟨cs, z, h1⟩ := h ad e
  exact ⟨cs, z, by rw [hb.block _ (Array.getElem?_eq_some_iff.1 h1).1]; exact h1⟩
theorem own_rowF {w : World} {base size : Nat} {A : Option Addr} {n c m : Nat} {xs : List Value} (h : w.ownsRow base 47 size (.slice A n c) m xs) : RowF w A := fun ad e => by
  rcases h.2 with ⟨h1, _⟩ | ⟨g, cap, cur, h1, _, h3, _⟩
  · injection h1 with h1 _ _
    rw [e] at h1
    cases h1
  · injection h1 with h1 _ _
    rw [e] at h1
    injection h1 with h1
    subst h1
    exact ⟨cur, _, h3⟩
/-- what a call returns that makes a row of pairs anew, with all its byte strings -/
def NewF (w : World) (ls : List PR) (e : Ending) (w' : World) : Prop :=
  ∃ A' c', e = .returned (.slice A' ls.length c') ∧ ls.length ≤ c' ∧ c' ≤ maxLen ∧ PrsD w' (Fr w.heap.size w'.heap.size) A' c' ls ∧ RowF w' A' ∧ Below w.heap.size w w'
/-- what a call returns that makes a row of pairs anew -/
def NewR (w : World) (ls : List PR) (e : Ending) (w' : World) : Prop :=
  ∃ A' c', e = .returned (.slice A' ls.length c') ∧ ls.length ≤ c' ∧ c' ≤ maxLen ∧ Prs w' w'.heap.size A' c' ls ∧ RowF w' A' ∧ Below w.heap.size w w'
theorem NewF.r {w : World} {ls : List PR} {e : Ending} {w' : World} (h : NewF w ls e w') : NewR w ls e w' := by
  obtain ⟨A', c', h1, h2, h3, h4, h5, h6⟩ := h
  exact ⟨A', c', h1, h2, h3, h4.here, h5, h6⟩
/-- what 'Put' returns, all of it made anew -/
def PutF (w : World) (ls : List PR) (E : Int) (e : Ending) (w' : World) : Prop :=
  ∃ A' c', e = .returned (.tuple #[.slice A' ls.length c', .int .i64 E]) ∧ ls.length ≤ c' ∧ c' ≤ maxLen ∧ PrsD w' (Fr w.heap.size w'.heap.size) A' c' ls ∧ RowF w' A' ∧ Below w.heap.size w w'
theorem PutF.none (w w' : World) (E : Int) (hb : Below w.heap.size w w') : PutF w [] E (.returned (.tuple #[.slice none 0 0, .int .i64 E])) w' :=
  ⟨_, _, rfl, Nat.le_refl _, Nat.zero_le _, PrsD.nothing _ _, (fun ad e => by cases e), hb⟩
/-- what 'Put' returns, its row made anew -/
def PutR (w : World) (ls : List PR) (E : Int) (e : Ending) (w' : World) : Prop :=
  ∃ A' c', e = .returned (.tuple #[.slice A' ls.length c', .int .i64 E]) ∧ ls.length ≤ c' ∧ c' ≤ maxLen ∧ Prs w' w'.heap.size A' c' ls ∧ RowF w' A' ∧ Below w.heap.size w w'
theorem PutR.none (w w' : World) (E : Int) (hb : Below w.heap.size w w') : PutR w [] E (.returned (.tuple #[.slice none 0 0, .int .i64 E])) w' :=
  ⟨_, _, rfl, Nat.le_refl _, Nat.zero_le _, Prs.nothing _ _, (fun ad e => by cases e), hb⟩
end Go.Proofs.Ytncbbjodianmoaa
