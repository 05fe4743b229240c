/- The form's own reach bounds the keys and values of an argument that is a row of pairs; bytes that a call may change. Conditions: those in each theorem. -/
import Derived.Test.YtncbbjodianmoaaOa
import Derived.Test.YtncbbjodianmoaaSo
namespace Go.Proofs.Ytncbbjodianmoaa
open Go.ChangeShapes Go.WideShapes Go.ChangeAt Go.RowKit Go.Deep
set_option linter.unusedVariables false

section
variable {H : Type} {enc : TypeId × Value → H} {w : World} {base : Nat} {held : Bool} {d : DataW H} {ps : List MemPlace} {ts : List TypeId} {ds : List (DataW H)}
theorem mem_all {e : TypeId} : ∀ {l : List (DataW H)} {x : DataW H}, x ∈ l → ∀ n ∈ x.weights Try.prog e, n ∈ DataW.weightsAll Try.prog e l
  | y :: l, x, hx, n, hn => by
    simp only [DataW.weightsAll, List.mem_append]
    rcases List.mem_cons.1 hx with h | h
    · subst h; exact .inl hn
    · exact .inr (mem_all h n hn)
theorem cap_weight {n : Nat} {v : Value} {x : DataW H × List MemPlace} (h : DataW.trod enc Try.prog w base (fun _ => true) held n 30 [v] = some x) {A : Option Addr} {l c : Nat} (hv : v = .slice A l c) : c = 0 ∨ c ∈ x.1.weights Try.prog 30 := by
  subst hv
  rcases open_ints Try.underlying30 Try.underlying5 cells5 h with ⟨hcs, _⟩ | ⟨x', l', c', zs, hcs, _, hl, hm, hz, hx, _, _⟩
  · simp at hcs
    exact .inl hcs.2.2
  · simp at hcs
    obtain ⟨rfl, rfl, rfl⟩ := hcs
    right
    subst hx
    have hz' : zs.length = c := by simpa using hz
    have hb5 : Try.prog.bytesOf 5 = 1 := bytes5
    simp only [DataW.weights, Try.underlying30, hb5, lits, List.length_map, List.length_take, List.length_drop, List.mem_cons]
    left
    omega
theorem reach_in {B : Nat} {a : Option Addr} {cap : Nat} {ls : List PR} (h : DataW.Trod enc Try.prog w base (fun _ => true) held 22 (.slice a ls.length cap) d ps) (hp : Prs w w.heap.size a cap ls) (hsz : (DataW.weightsEach Try.prog ts ds).all (· ≤ reachBytes) = true) {j : Nat} (h1 : ts[j]? = some 22) (h2 : ds[j]? = some d) :
    ∀ p ∈ ls, p.1.length ≤ 140737488351232 ∧ p.2.length ≤ 140737488351232 := by
  obtain ⟨fuel, hf⟩ := h
  intro p hpm
  obtain ⟨i, hi⟩ := List.getElem?_of_mem hpm
  have hil := (List.getElem?_eq_some_iff.1 hi).1
  rcases open_slice_pairs Try.underlying22 Try.underlying47 cells42 rfl rfl cells23 cells23 hf with ⟨hcs, _⟩ | ⟨x, l, c, m, n, V0, V1, D0, D1, P0, P1, hcs, _, hl, hm, hmm, hx, hrow⟩
  · simp [Value.cells] at hcs
    simp [hcs.2.1] at hil
  · simp [Value.cells] at hcs
    obtain ⟨rfl, rfl, rfl⟩ := hcs
    injection hx with hd _
    obtain ⟨b, o, Au, cu, Av, cv, hA, c1, c2, s1, s2, q1, q2, q3, q4⟩ := hp.at hi
    injection hA with hA
    subst hA
    have hmc : m = cap := by simpa using hmm
    obtain ⟨r1, r2, r3, r4⟩ := hrow i (by omega)
    rw [Addr.add_mid] at r1 r2
    rw [c1] at r1
    rw [show o + (i * 2 + 1) = o + i * 2 + 1 by omega, c2] at r2
    injection r1 with r1
    injection r2 with r2
    have hall : ∀ z, (z ∈ (D0 i).weights Try.prog 30 ∨ z ∈ (D1 i).weights Try.prog 30) → z ≤ reachBytes := fun z hz => by
      have hz2 : z ∈ (DataW.agg [D0 i, D1 i] : DataW H).weights Try.prog 47 := by
        simp only [DataW.weights, Try.underlying47]
        show z ∈ DataW.weightsEach Try.prog [30, 30] [D0 i, D1 i]
        simp only [DataW.weightsEach, List.mem_append]
        exact hz.elim .inl fun h => .inr (.inl h)
      have hz3 : z ∈ d.weights Try.prog 22 := by
        subst hd
        simp only [DataW.weights, Try.underlying22, List.mem_cons, List.mem_append]
        refine .inr (.inl (mem_all ?_ z hz2))
        exact List.mem_map.2 ⟨i, List.mem_range.2 hil, rfl⟩
      have := List.all_eq_true.1 hsz z (DataW.weights_mem_each h1 h2 z hz3)
      simpa using this
    have e : reachBytes = 140737488351232 := rfl
    constructor
    · rcases cap_weight r3 r1.symm with h | h
      · omega
      · have := hall cu (.inl h); omega
    · rcases cap_weight r4 r2.symm with h | h
      · omega
      · have := hall cv (.inr h); omega
end

/-- m bytes at A that may be changed, in a block from lo on, below hi -/
def ByS (w : World) (lo hi : Nat) (A : Option Addr) (m : Nat) : Prop :=
  ∀ j, j < m → ∃ g x, A = some ⟨g, 0, none⟩ ∧ lo ≤ g ∧ g < hi ∧ (∃ cs, w.heap[g]? = some (.cells cs 5 (0, 0))) ∧ w.cell? ⟨g, j, none⟩ = some (.int .u8 x)
theorem own_ByS {w : World} {lo : Nat} {A : Option Addr} {n c : Nat} {l : List Int} (h : w.ownsRow lo 5 1 (.slice A n c) n (cellsOf l)) : ByS w lo w.heap.size A n := by
  intro j hj
  have hl := h.1
  rcases h.2 with ⟨e, e'⟩ | ⟨g, cap, cur, e, h2, h3, h4, _⟩
  · omega
  · injection e with e _ _
    have hlen : j < (cellsOf l).length := by omega
    have hcell := h.cells (g := g) (by rw [e]; rfl) j _ (List.getElem?_eq_getElem hlen)
    rw [Addr.add_mid, Nat.zero_add] at hcell
    obtain ⟨x, _, hx⟩ : ∃ x, x ∈ l ∧ Value.int .u8 x = (cellsOf l)[j] := by
      simp [cellsOf]
    exact ⟨g, x, e, h2, (Array.getElem?_eq_some_iff.1 h3).1, ⟨cur, h3⟩, by rw [hcell, hx]⟩
/-- but for the blocks from lo on, below hi, all is as it was -/
structure MutR (lo hi : Nat) (w w' : World) : Prop where
  os : w'.os = w.os
  tape : w'.tape = w.tape
  output : w'.output = w.output
  size : w'.heap.size = w.heap.size
  block : ∀ b, ¬ (lo ≤ b ∧ b < hi) → w'.heap[b]? = w.heap[b]?
theorem MutR.refl (lo hi : Nat) (w : World) : MutR lo hi w w := ⟨rfl, rfl, rfl, rfl, fun _ _ => rfl⟩
theorem MutR.trans {lo hi : Nat} {a b c : World} (h : MutR lo hi a b) (k : MutR lo hi b c) : MutR lo hi a c :=
  ⟨k.os.trans h.os, k.tape.trans h.tape, k.output.trans h.output, k.size.trans h.size, fun b hb => (k.block b hb).trans (h.block b hb)⟩
theorem MutR.set {lo hi g k : Nat} (w : World) (v : Value) (h1 : lo ≤ g) (h2 : g < hi) : MutR lo hi w (w.setCell ⟨g, k, none⟩ v) :=
  ⟨rfl, rfl, rfl, setCell_size _ _ _, fun b hb => heap_setCell_far _ _ _ _ _ fun e => hb (by subst e; exact ⟨h1, h2⟩)⟩
theorem MutR.below {lo hi n : Nat} {w w' : World} (h : MutR lo hi w w') (hn : n ≤ lo) : Below n w w' := ⟨h.os, h.tape, h.output, by rw [h.size]; exact Nat.le_refl _, fun b hb => h.block b (by omega)⟩
theorem MutR.cell {lo hi : Nat} {w w' : World} (h : MutR lo hi w w') {a : Addr} (ha : ¬ (lo ≤ a.block ∧ a.block < hi)) : w'.cell? a = w.cell? a := World.cell?_of_block (h.block _ ha)
theorem ByS.set {w : World} {lo hi g k : Nat} {A : Option Addr} {m : Nat} {cs : Array Value} (h : ByS w lo hi A m) (hg : w.heap[g]? = some (.cells cs 5 (0, 0))) (x : Int) : ByS (w.setCell ⟨g, k, none⟩ (.int .u8 x)) lo hi A m := by
  intro j hj
  obtain ⟨g1, x1, e, h1, h2, ⟨cs1, h3⟩, h4⟩ := h j hj
  by_cases hgg : g1 = g
  · subst hgg
    have hn := heap_setCell_same w g1 k _ 5 (.int .u8 x) h3
    by_cases hk : j = k
    · subst hk
      exact ⟨g1, x, e, h1, h2, ⟨_, hn⟩, World.cell?_setCell_same' w ⟨g1, j, none⟩ _ (by rw [h4]; rfl)⟩
    · exact ⟨g1, x1, e, h1, h2, ⟨_, hn⟩, by rw [World.cell?_setCell_other _ _ _ _ (by intro e'; injection e' with _ e' _; exact hk e'.symm)]; exact h4⟩
  · exact ⟨g1, x1, e, h1, h2, ⟨cs1, by rw [heap_setCell_far _ _ _ _ _ hgg]; exact h3⟩, by rw [World.cell?_setCell_far _ _ _ _ (by exact fun e' => hgg e'.symm)]; exact h4⟩
theorem ByS.keep {w w' : World} {lo hi lo' hi' : Nat} {A : Option Addr} {m : Nat} (h : ByS w lo hi A m) (hm : MutR lo' hi' w w') (hd : hi ≤ lo' ∨ hi' ≤ lo) : ByS w' lo hi A m := by
  intro j hj
  obtain ⟨g, x, e, h1, h2, ⟨cs, h3⟩, h4⟩ := h j hj
  exact ⟨g, x, e, h1, h2, ⟨cs, by rw [hm.block g (by omega)]; exact h3⟩, by rw [hm.cell (a := ⟨g, j, none⟩) (by show ¬ (lo' ≤ g ∧ g < hi'); omega)]; exact h4⟩
theorem ByS.on {w w' : World} {lo hi : Nat} {A : Option Addr} {m : Nat} (h : ByS w lo hi A m) (hi' : hi ≤ w.heap.size) (hb : Below w.heap.size w w') : ByS w' lo hi A m := by
  intro j hj
  obtain ⟨g, x, e, h1, h2, ⟨cs, h3⟩, h4⟩ := h j hj
  exact ⟨g, x, e, h1, h2, ⟨cs, by rw [hb.block g (by omega)]; exact h3⟩, by rw [hb.cell (p := ⟨g, j, none⟩) (by show g < _; omega)]; exact h4⟩
theorem ByS.off {n0 : Nat} {w w' : World} {lo hi : Nat} {A : Option Addr} {m : Nat} (h : ByS w lo hi A m) (ho : Off n0 w w') : ByS w' lo hi A m := by
  intro j hj
  obtain ⟨g, x, e, h1, h2, ⟨cs, h3⟩, h4⟩ := h j hj
  have hk := ho.block g (Array.getElem?_eq_some_iff.1 h3).1 (fun hx => by
    obtain ⟨_, cs', T, z', g2, g3, _⟩ := hx
    rw [h3] at g2
    injection g2 with g2
    injection g2 with _ g2 _
    subst g2
    revert g3
    decide) (.inr ⟨_, _, _, h3⟩)
  exact ⟨g, x, e, h1, h2, ⟨cs, by rw [hk]; exact h3⟩, by rw [World.cell?_of_block (a := ⟨g, j, none⟩) (w := w) hk]; exact h4⟩
/-- a row of n pairs whose values may be changed -/
def Muts (w : World) (lo hi : Nat) (A : Option Addr) (n : Nat) : Prop :=
  ∀ i, i < n → ∃ b Av m cv, A = some ⟨b, 0, none⟩ ∧ lo ≤ b ∧ b < hi ∧ (∃ cs z, w.heap[b]? = some (.cells cs 47 z)) ∧ w.cell? ⟨b, i * 2 + 1, none⟩ = some (.slice Av m cv) ∧ m ≤ cv ∧ cv ≤ maxLen ∧ ByS w lo hi Av m
theorem tag_far {w : World} {a b : Nat} {cs cs' : Array Value} {z z' : Nat × Nat} (h : w.heap[a]? = some (.cells cs 47 z)) (h' : w.heap[b]? = some (.cells cs' 5 z')) : a ≠ b := tag_ne h h' (by decide)
theorem Muts.set {w : World} {lo hi g k : Nat} {A : Option Addr} {n : Nat} {cs : Array Value} (h : Muts w lo hi A n) (hg : w.heap[g]? = some (.cells cs 5 (0, 0))) (x : Int) : Muts (w.setCell ⟨g, k, none⟩ (.int .u8 x)) lo hi A n := by
  intro i hi'
  obtain ⟨b, Av, m, cv, e, h1, h2, ⟨cs1, z, h3⟩, h4, h5, h6, h7⟩ := h i hi'
  have hne := tag_far h3 hg
  exact ⟨b, Av, m, cv, e, h1, h2, ⟨cs1, z, by rw [heap_setCell_far _ _ _ _ _ hne]; exact h3⟩, by rw [World.cell?_setCell_far _ _ _ _ (by exact fun e' => hne e'.symm)]; exact h4, h5, h6, h7.set hg x⟩
theorem Muts.keep {w w' : World} {lo hi lo' hi' : Nat} {A : Option Addr} {n : Nat} (h : Muts w lo hi A n) (hm : MutR lo' hi' w w') (hd : hi ≤ lo' ∨ hi' ≤ lo) : Muts w' lo hi A n := by
  intro i hi2
  obtain ⟨b, Av, m, cv, e, h1, h2, ⟨cs1, z, h3⟩, h4, h5, h6, h7⟩ := h i hi2
  exact ⟨b, Av, m, cv, e, h1, h2, ⟨cs1, z, by rw [hm.block b (by omega)]; exact h3⟩, by rw [hm.cell (a := ⟨b, i * 2 + 1, none⟩) (by show ¬ (lo' ≤ b ∧ b < hi'); omega)]; exact h4, h5, h6, h7.keep hm hd⟩
theorem Muts.off {n0 : Nat} {w w' : World} {lo hi : Nat} {A : Option Addr} {n : Nat} (h : Muts w lo hi A n) (ho : Off n0 w w') : Muts w' lo hi A n := by
  intro i hi2
  obtain ⟨b, Av, m, cv, e, h1, h2, ⟨cs1, z, h3⟩, h4, h5, h6, h7⟩ := h i hi2
  have hk := ho.block b (Array.getElem?_eq_some_iff.1 h3).1 (fun hx => by
    obtain ⟨_, cs', T, z', g2, g3, _⟩ := hx
    rw [h3] at g2
    injection g2 with g2
    injection g2 with _ g2 _
    subst g2
    revert g3
    decide) (.inr ⟨_, _, _, h3⟩)
  exact ⟨b, Av, m, cv, e, h1, h2, ⟨cs1, z, by rw [hk]; exact h3⟩, by rw [World.cell?_of_block (a := ⟨b, i * 2 + 1, none⟩) (w := w) hk]; exact h4, h5, h6, h7.off ho⟩
theorem PsO.get {w : World} {lo : Nat} {l : List PR} {vs : List Value} (h : PsO w lo l vs) : ∀ {i : Nat} {p : PR}, l[i]? = some p → ∃ v, vs[i * 2 + 1]? = some v ∧ w.ownsRow lo 5 1 v p.2.length (cellsOf p.2) := by
  induction h with
  | nil => intro i p hp; simp at hp
  | @cons q l u v vs h1 b1 h2 b2 _ ih =>
    intro i p hp
    cases i with
    | zero =>
      simp at hp
      subst hp
      exact ⟨v, rfl, h2⟩
    | succ i =>
      obtain ⟨v', g1, g2⟩ := ih (i := i) (p := p) (by simpa using hp)
      exact ⟨v', by rw [show (i + 1) * 2 + 1 = i * 2 + 1 + 1 + 1 by omega]; simpa using g1, g2⟩
theorem own_Muts {w : World} {lo : Nat} {A : Option Addr} {c : Nat} {l : List PR} {vs : List Value} (h : w.ownsRow lo 47 2 (.slice A l.length c) l.length vs) (hp : PsO w lo l vs) : Muts w lo w.heap.size A l.length := by
  intro i hi
  obtain ⟨v, g1, g2⟩ := hp.get (i := i) (p := l[i]) (List.getElem?_eq_getElem hi)
  obtain ⟨Av, cv, rfl, k1, k2, _⟩ := own_lies g2
  rcases h.2 with ⟨e, e'⟩ | ⟨g, cap, cur, e, h2, h3, _⟩
  · omega
  · injection e with e _ _
    have hc := h.cells (g := g) (by rw [e]; rfl) (i * 2 + 1) _ g1
    rw [Addr.add_mid, Nat.zero_add] at hc
    exact ⟨g, Av, _, cv, e, h2, (Array.getElem?_eq_some_iff.1 h3).1, ⟨cur, _, h3⟩, hc, k1, k2, own_ByS g2⟩
end Go.Proofs.Ytncbbjodianmoaa
