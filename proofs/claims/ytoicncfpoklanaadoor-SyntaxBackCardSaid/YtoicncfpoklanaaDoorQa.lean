/- What the program's 'Parse' returns: the document's program, or the error and its place. Conditions: what is read lies in memory; the tables lie as the program lays them. -/
import Derived.Test.YtoicncfpoklanaaDoorPz
namespace Go.Proofs.YtoicncfpoklanaaDoor
open Go.RowKit
set_option maxRecDepth 100000
set_option linter.unusedSimpArgs false

/-- what 'Parse' returns -/
def ParseO (w : World) (o : Parsed) (e : Ending) (w' : World) : Prop :=
  ∃ V, e = .returned (.tuple #[.agg #[V], .int .i64 o.err, .int .i64 o.place]) ∧ FusC w' (Rng w.heap.size w'.heap.size) o.funcs V ∧ Below w.heap.size w w'
/-- the tokens of a row of the call's own -/
theorem own_src {w : World} {base : Nat} {v : Value} {ts : List Tok} {z R : Nat} (h : w.ownsRow base 77 4 v ts.length (toksC ts)) (hy : ∀ t ∈ ts, Byn t.text) (hR : w.heap.size ≤ R) : ∃ S : Src, S.all = ts ∧ S.z = z ∧ S.V = v ∧ S.Ok w R := by
  rcases h.2 with ⟨rfl, h2⟩ | ⟨g, cap, cur, rfl, hb, hg, hn, hm, _⟩
  · have : ts = [] := List.eq_nil_of_length_eq_zero h2
    subst this
    exact ⟨⟨none, 0, [], z⟩, rfl, rfl, rfl, Nat.le_refl _, Nat.zero_le _, hy, fun _ => rfl, fun g h => by cases h⟩
  · refine ⟨⟨some g, cap, ts, z⟩, rfl, rfl, rfl, hn, hm, hy, (fun h => by cases h), fun g' hg' => ?_⟩
    injection hg' with hg'
    subst hg'
    refine ⟨Nat.lt_of_lt_of_le (h.lt g rfl).2 hR, fun i t ht => ?_⟩
    have key : ∀ j u, j < 4 → (tokC t)[j]? = some u → w.cell? ⟨g, i * 4 + j, none⟩ = some u := fun j u hj hu => by
      have h1 := h.cells rfl (i * 4 + j) u ((toksC_get ts i j t ht hj).trans hu)
      rw [Addr.add_lit, Nat.zero_add] at h1
      exact h1
    exact ⟨key 0 _ (by omega) rfl, key 1 _ (by omega) rfl, key 2 _ (by omega) rfl, key 3 _ (by omega) rfl⟩

theorem ret_parse (tmps : Array Value) (w : World) (p q r : Nat) (V : Value) (x y : Int) (h2 : tmps.getD 2 undef = .pointer (some ⟨p, 0, none⟩)) (h3 : tmps.getD 3 undef = .pointer (some ⟨q, 0, none⟩)) (h4 : tmps.getD 4 undef = .pointer (some ⟨r, 0, none⟩)) (hV : VarAt w p [V]) (hx : VarAt w q [.int .i64 x]) (hy : VarAt w r [.int .i64 y]) :
    (results Tryd.f9 tmps).run Tryd.prog w = .ok (.tuple #[.agg #[V], .int .i64 x, .int .i64 y]) w := by
  have h2' : tmps[2]?.getD undef = .pointer (some ⟨p, 0, none⟩) := by simpa using h2
  have h3' : tmps[3]?.getD undef = .pointer (some ⟨q, 0, none⟩) := by simpa using h3
  have h4' : tmps[4]?.getD undef = .pointer (some ⟨r, 0, none⟩) := by simpa using h4
  have c0 := (hV.cell 0 _ rfl).1
  have c1 := (hx.cell 0 _ rfl).1
  have c2 := (hy.cell 0 _ rfl).1
  simp [results, Tryd.results9, h2', h3', h4', asAddr, go_sem, c0, c1, c2]

end Go.Proofs.YtoicncfpoklanaaDoor
