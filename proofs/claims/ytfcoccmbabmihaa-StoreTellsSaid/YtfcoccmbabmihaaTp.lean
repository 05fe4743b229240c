/- Plain facts on the bytes of stores: there and back. Conditions: those in each theorem. -/
import Derived.Test.YtfcoccmbabmihaaTb
import Derived.Test.YtfcoccmbabmihaaM
namespace Go.Proofs.Ytfcoccmbabmihaa
open Go.RowKit
set_option linter.unusedVariables false

/-- byte strings, two by two -/
def pairUp : List (List Int) → List PR
  | a :: b :: r => (a, b) :: pairUp r
  | _ => []
theorem pairUp_rowM : ∀ (ls : List PR), pairUp (rowM ls) = ls
  | [] => rfl
  | p :: ls => by rw [rowM_cons]; show (p.1, p.2) :: pairUp (rowM ls) = _; rw [pairUp_rowM ls]
theorem rowM_pairUp : ∀ (l : List (List Int)), l.length % 2 = 0 → rowM (pairUp l) = l
  | [], _ => rfl
  | [a], h => by simp at h
  | a :: b :: r, h => by
    show rowM ((a, b) :: pairUp r) = _
    rw [rowM_cons, rowM_pairUp r (by simp only [List.length_cons] at h; omega)]
theorem pairUp_len : ∀ (l : List (List Int)), (pairUp l).length = l.length / 2
  | [] => rfl
  | [a] => by simp [pairUp]
  | a :: b :: r => by
    show (pairUp r).length + 1 = _
    rw [pairUp_len r]
    simp only [List.length_cons]
    omega
theorem pairUp_get : ∀ (l : List (List Int)) {k : Nat} {p : PR}, (pairUp l)[k]? = some p → l[k * 2]? = some p.1 ∧ l[k * 2 + 1]? = some p.2
  | [], k, p, h => by simp [pairUp] at h
  | [a], k, p, h => by simp [pairUp] at h
  | a :: b :: r, 0, p, h => by
    simp [pairUp] at h
    subst h
    exact ⟨rfl, rfl⟩
  | a :: b :: r, k + 1, p, h => by
    have := pairUp_get r (k := k) (p := p) (by simpa [pairUp] using h)
    rw [show (k + 1) * 2 = k * 2 + 1 + 1 by omega]
    simpa using this

/-- the byte strings of the row ahead, and where it ends -/
abbrev rowI (b : List Int) : List (List Int) := items b ((0 : Int) + 4) (cnt b 0)
abbrev rowT (b : List Int) : Int := offs b ((0 : Int) + 4) (cnt b 0)
def rdE (b : List Int) : Int := if rowE b 0 = 0 then (if rowT b = (b.length : Int) ∧ (rowI b).length % 2 = 0 ∧ RightM (pairUp (rowI b)) then 0 else 111) else rowE b 0
def rdL (b : List Int) : List PR := if rdE b = 0 then pairUp (rowI b) else []
theorem rdE_0 {b : List Int} (h : rdE b = 0) : rowE b 0 = 0 ∧ rowT b = (b.length : Int) ∧ (rowI b).length % 2 = 0 ∧ RightM (pairUp (rowI b)) := by
  unfold rdE at h
  by_cases h1 : rowE b 0 = 0
  · rw [if_pos h1] at h
    by_cases h2 : rowT b = (b.length : Int) ∧ (rowI b).length % 2 = 0 ∧ RightM (pairUp (rowI b))
    · exact ⟨h1, h2⟩
    · rw [if_neg h2] at h; omega
  · rw [if_neg h1] at h; exact absurd h h1
theorem rdE_yes {b : List Int} (h1 : rowE b 0 = 0) (h2 : rowT b = (b.length : Int)) (h3 : (rowI b).length % 2 = 0) (h4 : RightM (pairUp (rowI b))) : rdE b = 0 ∧ rdL b = pairUp (rowI b) := by
  have : rdE b = 0 := by unfold rdE; rw [if_pos h1, if_pos ⟨h2, h3, h4⟩]
  exact ⟨this, if_pos this⟩
theorem rdE_no {b : List Int} (h1 : rowE b 0 = 0) (h : ¬(rowT b = (b.length : Int) ∧ (rowI b).length % 2 = 0 ∧ RightM (pairUp (rowI b)))) : rdE b = 111 ∧ rdL b = [] := by
  have : rdE b = 111 := by unfold rdE; rw [if_pos h1, if_neg h]
  exact ⟨this, if_neg (by rw [this]; decide)⟩
theorem rdE_err {b : List Int} (h1 : rowE b 0 ≠ 0) : rdE b = rowE b 0 ∧ rdL b = [] := by
  have : rdE b = rowE b 0 := by unfold rdE; rw [if_neg h1]
  exact ⟨this, if_neg (by rw [this]; exact h1)⟩
theorem row_byt {b : List Int} (hb : Byt b) : ∀ s ∈ rowI b, Byt s := by
  intro s hs
  simp only [rowI, items, List.mem_map] at hs
  obtain ⟨j, _, rfl⟩ := hs
  exact hb.sub fun x hx => List.mem_of_mem_drop (List.mem_of_mem_take hx)

/-- what was written is read -/
theorem rd_wr {l : List PR} (h : RightM l) : rdE (wrL l) = 0 ∧ rdL (wrL l) = l := by
  obtain ⟨h1, h2⟩ := right_row h
  have hw : wrL l = rowBytes (rowM l) := if_pos h
  rw [hw]
  have hd : (rowBytes (rowM l)).drop 0 = rowBytes (rowM l) ++ [] := by simp
  obtain ⟨g1, g2, g3, g4⟩ := row_read hd h1 h2
  have g1' : cnt (rowBytes (rowM l)) 0 = (rowM l).length := g1
  have e1 : rowI (rowBytes (rowM l)) = rowM l := by unfold rowI; rw [g1']; exact g3
  have e2 : rowT (rowBytes (rowM l)) = ((rowBytes (rowM l)).length : Int) := by unfold rowT; rw [g1']; rw [show ((0 : Nat) : Int) + 4 = (0 : Int) + 4 from rfl] at g4; omega
  have := rdE_yes (b := rowBytes (rowM l)) g2 e2 (by rw [e1, rowM_len]; omega) (by rw [e1, pairUp_rowM]; exact h)
  rw [e1, pairUp_rowM] at this
  exact this
/-- what is read is written as it stood -/
theorem wr_rd {b : List Int} (hb : Byt b) (h : rdE b = 0) : RightM (rdL b) ∧ wrL (rdL b) = b := by
  obtain ⟨h1, h2, h3, h4⟩ := rdE_0 h
  have e : rdL b = pairUp (rowI b) := if_pos h
  rw [e]
  refine ⟨h4, ?_⟩
  unfold wrL
  rw [if_pos h4, rowM_pairUp _ h3]
  obtain ⟨o, g1, g2, g3⟩ := row_again hb h1
  have : o = b.length := by have : rowT b = o := g1; omega
  rw [this, List.take_length] at g3
  exact g3
theorem wr_inj {l m : List PR} (hl : RightM l) (hm : RightM m) : (wrL l = wrL m) ↔ l = m := by
  constructor
  · intro h
    rw [← (rd_wr hl).2, ← (rd_wr hm).2, h]
  · intro h; rw [h]
theorem wr_byt {l : List PR} (hb : ∀ p ∈ l, Byt p.1 ∧ Byt p.2) : Byt (wrL l) := by
  unfold wrL
  split
  · refine rowBytes_byt fun s hs => ?_
    obtain ⟨p, hp, e | e⟩ := rowM_mem hs
    · rw [e]; exact (hb p hp).1
    · rw [e]; exact (hb p hp).2
  · exact Byt.nil
theorem PsC.byt {w : World} {B : Nat} {ls : List PR} {vs : List Value} (h : PsC w B ls vs) : ∀ p ∈ ls, Byt p.1 ∧ Byt p.2 := by
  induction h with
  | nil => intro p hp; cases hp
  | cons h1 h2 _ ih =>
    intro p hp
    rcases List.mem_cons.1 hp with e | e
    · rw [e]; exact ⟨h1.byt, h2.byt⟩
    · exact ih p e
theorem Prs.byt {w : World} {B : Nat} {A : Option Addr} {c : Nat} {ls : List PR} (h : Prs w B A c ls) : ∀ p ∈ ls, Byt p.1 ∧ Byt p.2 := by
  obtain ⟨vs, _, h2⟩ := h
  exact h2.byt
theorem pairUp_sml {b : List Int} (h : rowE b 0 = 0) : Sml (pairUp (rowI b)) ∧ (rowI b).length ≤ 1024 := by
  obtain ⟨h1, h2⟩ := row_again_good h
  have hl : (rowI b).length ≤ 1024 := by rw [items_length]; exact h1
  refine ⟨⟨by rw [pairUp_len]; omega, fun p hp => ?_⟩, hl⟩
  obtain ⟨k, hk⟩ := List.getElem?_of_mem hp
  obtain ⟨g1, g2⟩ := pairUp_get _ hk
  have := h2 _ (List.mem_of_getElem? g1)
  have := h2 _ (List.mem_of_getElem? g2)
  omega
/-- a row of byte strings of the call's own, cell by cell -/
theorem GridO.cells {w : World} {base : Nat} {v : Value} {ls : List (List Int)} (h : GridO w base v ls) (hb : ∀ s ∈ ls, Byt s) (hne : 0 < ls.length) :
    ∃ b c, v = .slice (some ⟨b, 0, none⟩) ls.length c ∧ ls.length ≤ c ∧ c ≤ maxLen ∧ b < w.heap.size ∧ ∀ i s, ls[i]? = some s → ∃ u, w.cell? ⟨b, i, none⟩ = some u ∧ SB w w.heap.size u s := by
  obtain ⟨vs, h1, h2, h3⟩ := h
  rcases h2.2 with ⟨_, h0⟩ | ⟨g, cap, cur, rfl, hb0, hg, hn, hm, hs, ht⟩
  · omega
  · refine ⟨g, cap, rfl, hn, hm, (h2.lt g rfl).2, fun i s hi => ?_⟩
    have hil : i < ls.length := (List.getElem?_eq_some_iff.1 hi).1
    obtain ⟨x, hx⟩ : ∃ x, vs[i]? = some x := ⟨_, List.getElem?_eq_getElem (by omega)⟩
    have hc := h2.cells rfl i x hx
    rw [Addr.add_mid, Nat.zero_add] at hc
    exact ⟨x, hc, own_SB (h3 i x s hx hi) (hb s (List.mem_of_getElem? hi))⟩
end Go.Proofs.Ytfcoccmbabmihaa
