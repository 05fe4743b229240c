/- Memory of a journal: what is kept but for blocks of slices and of closures; what a closure that reverts does; a journal that lies. Conditions: those in each theorem. -/
import Derived.Test.YtncbbjodianmoaaSn
import Derived.Test.YtncbbjodianmoaaJp
namespace Go.Proofs.Ytncbbjodianmoaa
open Go.RowKit
set_option linter.unusedVariables false

/-- no cell is a number -/
def NoI (cs : Array Value) : Prop := ∀ x ∈ cs, ∀ q y, x ≠ .int q y
/-- a block, made since n0, of a journal's: its own, its closures', the document's, its rows' -/
def Sp (n0 : Nat) (w : World) (b : Nat) : Prop := n0 ≤ b ∧ ∃ cs T z, w.heap[b]? = some (.cells cs T z) ∧ (T = 54 ∨ T = 57 ∨ T = 60 ∨ T = 22) ∧ NoI cs
theorem Sp.lt {n0 : Nat} {w : World} {b : Nat} (h : Sp n0 w b) : b < w.heap.size := by
  obtain ⟨_, cs, T, z, h1, _⟩ := h
  exact (Array.getElem?_eq_some_iff.1 h1).1
theorem Sp.same {n0 : Nat} {w w' : World} {b : Nat} (h : w'.heap[b]? = w.heap[b]?) : Sp n0 w' b ↔ Sp n0 w b := by unfold Sp; rw [h]
/-- a block of cells -/
def Cel (w : World) (b : Nat) : Prop := ∃ cs T z, w.heap[b]? = some (.cells cs T z)
theorem Cel.of {w : World} {a : Addr} {v : Value} (h : w.cell? a = some v) : Cel w a.block := by
  unfold World.cell? at h
  split at h
  · exact ⟨_, _, _, by assumption⟩
  · cases h
/-- but for a journal's blocks all cells are as they were -/
structure Off (n0 : Nat) (w w' : World) : Prop where
  os : w'.os = w.os
  tape : w'.tape = w.tape
  output : w'.output = w.output
  size : w.heap.size ≤ w'.heap.size
  block : ∀ b, b < w.heap.size → ¬ Sp n0 w b → (b < n0 ∨ Cel w b) → w'.heap[b]? = w.heap[b]?
  sp : ∀ b, Sp n0 w b → Sp n0 w' b
theorem Off.of {n0 : Nat} {a b : World} (h : Below a.heap.size a b) : Off n0 a b :=
  ⟨h.os, h.tape, h.output, h.size, fun i hi _ _ => h.block i hi, fun i hi => (Sp.same (h.block i hi.lt)).2 hi⟩
theorem Off.refl (n0 : Nat) (w : World) : Off n0 w w := .of (Below.refl _ _)
theorem Off.trans {n0 : Nat} {a b c : World} (h : Off n0 a b) (k : Off n0 b c) : Off n0 a c :=
  ⟨k.os.trans h.os, k.tape.trans h.tape, k.output.trans h.output, Nat.le_trans h.size k.size,
    fun i hi hx hc => (k.block i (Nat.lt_of_lt_of_le hi h.size) (fun h' => hx ((Sp.same (h.block i hi hx hc)).1 h')) (hc.imp id fun ⟨cs, T, z, hc'⟩ => ⟨cs, T, z, by rw [h.block i hi hx hc]; exact hc'⟩)).trans (h.block i hi hx hc), fun i hi => k.sp i (h.sp i hi)⟩
theorem Off.then {n0 : Nat} {a b c : World} (h : Off n0 a b) (k : Below b.heap.size b c) : Off n0 a c := h.trans (.of k)
theorem Off.below {n0 : Nat} {a b : World} (h : Off n0 a b) (hn : n0 ≤ a.heap.size) : Below n0 a b :=
  ⟨h.os, h.tape, h.output, h.size, fun i hi => h.block i (by omega) (fun hx => by have := hx.1; omega) (.inl hi)⟩
/-- one of a journal's blocks changes -/
theorem Off.grown {n0 : Nat} {a b : World} {J : Nat} (hg : a.grownBy b (some J)) (hJ : Sp n0 a J) (hJ' : Sp n0 b J) : Off n0 a b :=
  ⟨hg.os, hg.tape, hg.output, hg.size, fun i hi hx _ => hg.block i hi fun e => hx (by injection e with e; subst e; exact hJ), fun i hi => by
    by_cases e : i = J
    · subst e; exact hJ'
    · exact (Sp.same (hg.block i hi.lt fun h => e (by injection h))).2 hi⟩

/-- a block that is no cells changes -/
theorem Off.other {n0 : Nat} {a b : World} {r : Nat} (hg : a.grownBy b (some r)) (hr : ¬ Cel a r) (hn : n0 ≤ r) : Off n0 a b :=
  ⟨hg.os, hg.tape, hg.output, hg.size, fun i hi _ hc => hg.block i hi fun e => by
      injection e with e
      subst e
      rcases hc with h | h
      · omega
      · exact hr h,
    fun i hi => (Sp.same (hg.block i hi.lt fun e => by
      injection e with e
      subst e
      obtain ⟨_, cs, T, z, h, _⟩ := hi
      exact hr ⟨cs, T, z, h⟩)).2 hi⟩

theorem SB.off {n0 : Nat} {w w' : World} {u : Value} {l : List Int} (h : SB w w.heap.size u l) (ho : Off n0 w w') : SB w' w'.heap.size u l := by
  obtain ⟨A, c, h1, h2, h3, h4, h5⟩ := h
  refine ⟨A, c, h1, h2, h3, ⟨h4.1, fun j u hu => ?_⟩, h5⟩
  obtain ⟨ad, e, hB, hc⟩ := h4.2 j u hu
  refine ⟨ad, e, Nat.lt_of_lt_of_le hB ho.size, ?_⟩
  obtain ⟨b, hb, rfl⟩ : ∃ b, b ∈ l ∧ Value.int .u8 b = u := by
    have := List.mem_of_getElem? hu
    simpa [cellsOf] using this
  rw [World.cell?_of_block (a := ad.add j) (w := w) (by
    rw [addr_block]
    refine ho.block _ hB (fun hx => ?_) (.inr (by have := Cel.of hc; rwa [addr_block] at this))
    obtain ⟨_, cs, T, z, g1, _, g2⟩ := hx
    unfold World.cell? at hc
    rw [addr_block, g1] at hc
    dsimp only at hc
    split at hc
    · cases hc
    · exact g2 _ (Array.mem_of_getElem? hc) _ _ rfl)]
  exact hc
/-- a row of pairs that lies in no block of a journal's -/
def PrsX (n0 : Nat) (w : World) (A : Option Addr) (c : Nat) (ls : List PR) : Prop := Prs w w.heap.size A c ls ∧ ∀ ad, A = some ad → Cel w ad.block ∧ ¬ Sp n0 w ad.block
theorem PrsX.off {n0 : Nat} {w w' : World} {A : Option Addr} {c : Nat} {ls : List PR} (h : PrsX n0 w A c ls) (ho : Off n0 w w') : PrsX n0 w' A c ls := by
  obtain ⟨⟨vs, h1, h2⟩, h3⟩ := h
  refine ⟨⟨vs, ⟨h1.1, fun j u hu => ?_⟩, h2.mono fun u l h => h.off ho⟩, fun ad e => ?_⟩
  · obtain ⟨ad, e, hB, hc⟩ := h1.2 j u hu
    refine ⟨ad, e, Nat.lt_of_lt_of_le hB ho.size, ?_⟩
    rw [World.cell?_of_block (a := ad.add j) (w := w) (by rw [addr_block]; exact ho.block _ hB (h3 ad e).2 (.inr (h3 ad e).1))]
    exact hc
  · obtain ⟨g1, g2⟩ := h3 ad e
    obtain ⟨cs, T, z, g3⟩ := id g1
    have e' := ho.block _ (Array.getElem?_eq_some_iff.1 g3).1 g2 (.inr g1)
    exact ⟨⟨cs, T, z, by rw [e']; exact g3⟩, fun h => g2 ((Sp.same e').1 h)⟩
theorem PrsX.on {n0 : Nat} {w w' : World} {A : Option Addr} {c : Nat} {ls : List PR} (h : PrsX n0 w A c ls) (hb : Below w.heap.size w w') : PrsX n0 w' A c ls := h.off (.of hb)
theorem RowF.off {n0 : Nat} {w : World} {A : Option Addr} (h : RowF w A) : ∀ ad, A = some ad → Cel w ad.block ∧ ¬ Sp n0 w ad.block := fun ad e => by
  obtain ⟨cs, z, h1⟩ := h ad e
  refine ⟨⟨cs, _, z, h1⟩, fun hx => ?_⟩
  obtain ⟨_, cs', T, z', h2, h3, _⟩ := hx
  rw [h1] at h2
  injection h2 with h2
  injection h2 with _ h2 _
  subst h2
  revert h3
  decide

/-- what a call returns that gives a row, in no block of a journal's -/
def NewX (n0 : Nat) (w : World) (ls : List PR) (e : Ending) (w' : World) : Prop :=
  ∃ A' c', e = .returned (.slice A' ls.length c') ∧ ls.length ≤ c' ∧ c' ≤ maxLen ∧ PrsX n0 w' A' c' ls ∧ Below w.heap.size w w'
/-- the closure f makes F of a row, in this world and in later ones -/
def Acts (n0 : Nat) (w : World) (f : Value) (F : List PR → List PR) : Prop :=
  ∃ fn lb, f = .func (.func fn) #[] lb ∧ Ent fn ∧ ∀ w', Off n0 w w' → ∀ A c a, Sm 100000 a → a.length ≤ c → c ≤ maxLen → PrsX n0 w' A c a → Calls Try.prog fn (#[.slice A a.length c] ++ lb) w' (NewX n0 w' (F a))
theorem Acts.off {n0 : Nat} {w w' : World} {f : Value} {F : List PR → List PR} (h : Acts n0 w f F) (ho : Off n0 w w') : Acts n0 w' f F := by
  obtain ⟨fn, lb, h1, h2, h3⟩ := h
  exact ⟨fn, lb, h1, h2, fun w2 h => h3 w2 (ho.trans h)⟩

/-- a row of closures of the call's own, with no number in its block -/
def Rws (n0 : Nat) (w : World) (T : TypeId) (v : Value) (n : Nat) (xs : List Value) : Prop :=
  w.ownsRow n0 T 1 v n xs ∧ ∀ g, v.ownBlock = some g → ∀ cs T z, w.heap[g]? = some (.cells cs T z) → NoI cs
theorem Rws.nil (n0 : Nat) (w : World) (T : TypeId) : Rws n0 w T (.slice none 0 0) 0 [] := ⟨World.ownsRow_nil _ _ _ _, fun g h => by cases h⟩
/-- its block is a journal's -/
theorem Rws.spb {n0 : Nat} {w : World} {T : TypeId} {v : Value} {n : Nat} {xs : List Value} (h : Rws n0 w T v n xs) (hT : T = 54 ∨ T = 57 ∨ T = 60 ∨ T = 22) {g : Nat} (hg : v.ownBlock = some g) : Sp n0 w g := by
  rcases h.1.2 with ⟨rfl, _⟩ | ⟨g', cap, cur, rfl, h2, h3, _⟩
  · cases hg
  · obtain rfl : g' = g := by injection hg
    exact ⟨h2, cur, T, _, h3, hT, h.2 g' rfl _ _ _ h3⟩
theorem Rws.keep {n0 : Nat} {w w' : World} {T : TypeId} {v : Value} {n : Nat} {xs : List Value} (h : Rws n0 w T v n xs) (hk : ∀ g, v.ownBlock = some g → w'.heap[g]? = w.heap[g]?) : Rws n0 w' T v n xs := by
  refine ⟨⟨h.1.1, ?_⟩, fun g hg cs T z h' => h.2 g hg cs T z (by rw [← hk g hg]; exact h')⟩
  rcases h.1.2 with h' | ⟨g, cap, cur, rfl, h2, h3, h4⟩
  · exact .inl h'
  · exact .inr ⟨g, cap, cur, rfl, h2, by rw [hk g rfl]; exact h3, h4⟩
theorem Rws.on {n0 : Nat} {w w' : World} {T : TypeId} {v : Value} {n : Nat} {xs : List Value} (h : Rws n0 w T v n xs) (hb : Below w.heap.size w w') : Rws n0 w' T v n xs :=
  h.keep fun g hg => hb.block g (h.1.lt g hg).2

/-- the journal at J holds cur; before its changes it held hs -/
structure Jr (n0 : Nat) (w : World) (J : Nat) (hs : List (List PR)) (cur : List PR) : Prop where
  hJ : n0 ≤ J
  len : hs.length ≤ 1000
  right : ∀ s ∈ hs ++ [cur], RightM s
  ex : ∃ (A : Option Addr) (c : Nat) (R : Option Addr) (cr : Nat) (fs : List Value) (Fs : List (List PR → List PR)),
    w.heap[J]? = some (.cells #[.slice A cur.length c, .slice R hs.length cr] 54 (0, 0)) ∧ cur.length ≤ c ∧ c ≤ maxLen ∧ PrsX n0 w A c cur ∧
    Rws n0 w 60 (.slice R hs.length cr) hs.length fs ∧ Fs.length = hs.length ∧ (∀ (i : Nat) (f : Value) (F : List PR → List PR), fs[i]? = some f → Fs[i]? = some F → Acts n0 w f F) ∧ (∀ F ∈ Fs, Mild F) ∧ Chain (hs ++ [cur]) Fs
theorem Jr.cur {n0 : Nat} {w : World} {J : Nat} {hs : List (List PR)} {cur : List PR} (h : Jr n0 w J hs cur) : RightM cur := h.right cur (by simp)
theorem noI_two {A A' : Option Addr} {n n' c c' : Nat} : NoI #[.slice A n c, .slice A' n' c'] := by
  intro x hx q y e
  subst e
  simp at hx
theorem Jr.sp {n0 : Nat} {w : World} {J : Nat} {hs : List (List PR)} {cur : List PR} (h : Jr n0 w J hs cur) : Sp n0 w J := by
  obtain ⟨A, c, R, cr, fs, Fs, h1, _⟩ := h.ex
  exact ⟨h.hJ, _, 54, _, h1, .inl rfl, noI_two⟩
/-- the blocks of a journal at J: its own and its closures' row -/
def Jb (w : World) (J b : Nat) : Prop := b = J ∨ ∃ v R, w.cell? ⟨J, 1, none⟩ = some v ∧ v.ownBlock = some R ∧ b = R
/-- what is done elsewhere leaves a journal as it was -/
theorem Jr.off {n0 : Nat} {w w' : World} {J : Nat} {hs : List (List PR)} {cur : List PR} (h : Jr n0 w J hs cur) (ho : Off n0 w w') (hk : ∀ b, Jb w J b → w'.heap[b]? = w.heap[b]?) : Jr n0 w' J hs cur := by
  obtain ⟨A, c, R, cr, fs, Fs, h1, h2, h3, h4, h5, h7, h8, h9, h10⟩ := h.ex
  exact ⟨h.hJ, h.len, h.right, A, c, R, cr, fs, Fs, by rw [hk J (.inl rfl)]; exact h1, h2, h3, h4.off ho,
    h5.keep fun g hg => hk g (.inr ⟨_, g, by simp [World.cell?, h1], hg, rfl⟩), h7, fun i f F g1 g2 => (h8 i f F g1 g2).off ho, h9, h10⟩
theorem Jr.jb_lt {n0 : Nat} {w : World} {J : Nat} {hs : List (List PR)} {cur : List PR} (h : Jr n0 w J hs cur) {b : Nat} (hb : Jb w J b) : b < w.heap.size ∧ Sp n0 w b := by
  obtain ⟨A, c, R, cr, fs, Fs, h1, h2, h3, h4, h5, _⟩ := h.ex
  rcases hb with rfl | ⟨v, R', g1, g2, rfl⟩
  · exact ⟨h.sp.lt, h.sp⟩
  · have : v = .slice R hs.length cr := by
      have e : w.cell? ⟨J, 1, none⟩ = some (.slice R hs.length cr) := by simp [World.cell?, h1]
      rw [e] at g1
      injection g1 with g1
      exact g1.symm
    subst this
    have := h5.spb (.inr (.inr (.inl rfl))) g2
    exact ⟨this.lt, this⟩
theorem Jr.on {n0 : Nat} {w w' : World} {J : Nat} {hs : List (List PR)} {cur : List PR} (h : Jr n0 w J hs cur) (hb : Below w.heap.size w w') : Jr n0 w' J hs cur :=
  h.off (.of hb) fun b h' => hb.block b (h.jb_lt h').1
end Go.Proofs.Ytncbbjodianmoaa
