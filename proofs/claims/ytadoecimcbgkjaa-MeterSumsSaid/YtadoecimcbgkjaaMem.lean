/- Words of this proof for memory (a struct in a block of its own, what stays of the memory that was there) and their laws; nothing of the program but the sizes of its types. Conditions: those in each theorem. -/
import Derived.Test.YtadoecimcbgkjaaRows
import Derived.WalkKit
import Derived.WalkSpells
import Derived.WalkLawsBesides
import Derived.Lib.Hide
import Derived.Outline
import Derived.Laws.BytesArg
import Derived.Deep.MidRow
import Derived.Deep.RegionHeld3
import Derived.Deep.QuietTactic
import Derived.BigQuiet
namespace Go.Proofs.Ytadoecimcbgkjaa
open Go.RowKit

theorem below_drewN {B : Nat} {a w : World} (h : Below B a w) (n : Nat) : Below B a (w.drewN n) := ⟨h.os, h.tape, h.output, h.size, h.block⟩
theorem below_alloc (w : World) (o : Obj) : Below w.heap.size w (w.alloc o) := (Below.refl _ _).alloc (Nat.le_refl _) o
/-- a stronger condition serves for a weaker one -/
theorem held_mono {P : Program} {md : Region.Mode} {ops : Array Oper} {Q : Exit → Act → World → Prop} {S S' : World → Prop} (hS : ∀ w, S w → S' w) :
    ∀ (fuel : Nat) (listed : Array Bool) (a : Act) (w : World), wpAnyH P md ops Q S fuel listed a w → wpAnyH P md ops Q S' fuel listed a w
  | 0, _, _, _, h => h
  | fuel + 1, _, _, _, h => ⟨h.1, fun i hi => wpOp_mono (fun a' w' h' => ⟨hS w' h'.1, held_mono hS fuel _ a' w' h'.2⟩) (h.2 i hi)⟩
theorem below_cells (g o : Nat) : ∀ (cs : List Value) (w : World), Below g w (w.setCells g o cs) ∧ (∀ k, k ≠ g → (w.setCells g o cs).heap[k]? = w.heap[k]?) ∧ (w.setCells g o cs).heap.size = w.heap.size := by
  intro cs
  induction cs generalizing o with
  | nil => exact fun w => ⟨Below.refl _ _, fun _ _ => rfl, rfl⟩
  | cons c cs ih =>
    intro w
    have h := ih (o + 1) (w.setCell ⟨g, o, none⟩ c)
    refine ⟨((Below.refl g w).setCell (p := ⟨g, o, none⟩) (Nat.le_refl _) c).trans h.1, fun k hk => ?_, h.2.2.trans (by simp [World.setCell])⟩
    have h2 := h.2.1 k hk
    rw [Below.heap_setCell _ _ _ _ hk] at h2
    exact h2
/-- a struct is stored in a variable of its own -/
theorem wpList_storeN {ops : Array Oper} {rest : List Oper} {o : Oper} {a : Act} {w : World} {Q : Exit → Act → World → Prop} {T n : Nat} (hi : (Try.prog.info? T).map (·.size) = some n) (hgd : o.guard = none) (x y : Operand) (ho : o.op = .store T x y) (hd : o.dst = none)
    (g : Nat) (hx : a.eval x = .pointer (some ⟨g, 0, none⟩)) (cs : List Value) (hl : cs.length = n) (hy : a.eval y = .agg cs.toArray) (ht : w.there g 0 n) (h1 : ∀ u ∈ cs, u.oneCell' = true)
    (h : ∀ w', w'.rangeAt g 0 cs → w'.there g 0 n → Below g w w' → (∀ k, k ≠ g → w'.heap[k]? = w.heap[k]?) → w'.heap.size = w.heap.size → wpList Try.prog ops Q rest a w') : wpList Try.prog ops Q (o :: rest) a w := by
  subst hl
  refine wpList_store_mid hgd T x y ho g 0 cs.toArray hx hy (by simpa using ht) (by simpa using hi) (by simpa using h1) ?_
  have hb := below_cells g 0 cs w
  have := h (w.setCells g 0 cs) (World.rangeAt_setCells_same w g 0 _ (by simpa using ht)) (World.there_setCells ht _ _ _) hb.1 hb.2.1 hb.2.2
  rw [hd]
  exact this
/-- a struct in the block where a function's result lies -/
theorem ret_cell {fn : Func} {s T : Nat} {d : TypeDesc} {cs : List Value} (h : fn.results = #[.cell s T]) (hu : Try.prog.underlying T = some d) (hd : d.isRow = true) (hi : (Try.prog.info? T).map (·.size) = some cs.length) (tmps : Array Value) (w : World) (g : Nat) (hp : tmps.getD s undef = .pointer (some ⟨g, 0, none⟩)) (hr : w.rangeAt g 0 cs) :
    (results fn tmps).run Try.prog w = .ok (.agg cs.toArray) w := by
  have hp' : tmps[s]?.getD undef = .pointer (some ⟨g, 0, none⟩) := by simpa using hp
  have h1 := run_loadVar_mid (P := Try.prog) w g 0 T cs _ hr hu hd hi
  simp [results, h, hp', asAddr, h1]
/-- the same with a second result -/
theorem ret_cell2 {fn : Func} {s T u : Nat} {d : TypeDesc} {cs : List Value} (h : fn.results = #[.cell s T, .tmp u]) (hu : Try.prog.underlying T = some d) (hd : d.isRow = true) (hi : (Try.prog.info? T).map (·.size) = some cs.length) (tmps : Array Value) (w : World) (g : Nat) (hp : tmps.getD s undef = .pointer (some ⟨g, 0, none⟩)) (hr : w.rangeAt g 0 cs) :
    (results fn tmps).run Try.prog w = .ok (.tuple #[.agg cs.toArray, tmps.getD u undef]) w := by
  have hp' : tmps[s]?.getD undef = .pointer (some ⟨g, 0, none⟩) := by simpa using hp
  have h1 := run_loadVar_mid (P := Try.prog) w g 0 T cs _ hr hu hd hi
  simp [results, h, hp', asAddr, h1]
/-- a block of cells, as a range -/
theorem range_of {w : World} {g : Nat} {cs : List Value} {T : TypeId} (h : w.heap[g]? = some (.cells cs.toArray T (0, 0))) : w.rangeAt g 0 cs := by
  intro j v hv
  rw [cell_of_row _ _ _ _ _ _ h]
  simpa using hv
theorem there_cells {w : World} {g n : Nat} {cs : List Value} {T : TypeId} (h : w.heap[g]? = some (.cells cs.toArray T (0, 0))) (hn : cs.length = n) : w.there g 0 n := by
  intro j hj
  constructor
  · rw [cell_of_row _ _ _ _ _ _ h]
    simp
    omega
  · simp [World.frozen?, h]
theorem range_below {w w' : World} {B g : Nat} {cs : List Value} (h : w.rangeAt g 0 cs) (hb : Below B w w') (hg : g < B) : w'.rangeAt g 0 cs := by
  intro j v hv
  rw [hb.cell (by exact hg)]
  exact h j v hv
theorem there_below {w w' : World} {B g n : Nat} (h : w.there g 0 n) (hb : Below B w w') (hg : g < B) : w'.there g 0 n := by
  intro j hj
  have e := hb.block g hg
  refine ⟨?_, ?_⟩
  · rw [hb.cell (by exact hg)]; exact (h j hj).1
  · have := (h j hj).2
    unfold World.frozen? at this ⊢
    rw [e]; exact this
theorem info23s : (Try.prog.info? 23).map (·.size) = some 2 := by kernel_rfl
/-- gas: its limit, what is used -/
abbrev GV (l u : Int) : Value := .agg #[.int .i64 l, .int .i64 u]
abbrev gO (l u : Int) : Obj := .cells #[.int .i64 l, .int .i64 u] 23
/-- gas in the block b, which may be written -/
def At (w : World) (b : Nat) (l u : Int) : Prop := w.rangeAt b 0 [.int .i64 l, .int .i64 u] ∧ w.there b 0 2
theorem At.below {w w' : World} {B b : Nat} {l u : Int} (h : At w b l u) (hb : Below B w w') (hg : b < B) : At w' b l u := ⟨range_below h.1 hb hg, there_below h.2 hb hg⟩
theorem At.cells {w : World} {b : Nat} {l u : Int} (h : At w b l u) : w.cell? ⟨b, 0, none⟩ = some (.int .i64 l) ∧ w.cell? ⟨b, 1, none⟩ = some (.int .i64 u) :=
  ⟨h.1 0 _ rfl, h.1 1 _ rfl⟩
theorem At.lt {w : World} {b : Nat} {l u : Int} (h : At w b l u) : b < w.heap.size := World.block_lt_of_cell? w _ h.cells.1
theorem at_new (w : World) (l u : Int) : At (w.alloc (gO l u)) w.heap.size l u :=
  ⟨range_of (cs := [.int .i64 l, .int .i64 u]) (heap_alloc_new w _), there_cells (cs := [.int .i64 l, .int .i64 u]) (heap_alloc_new w _) rfl⟩
def fits (x : Int) : Prop := -9223372036854775808 ≤ x ∧ x ≤ 9223372036854775807
instance (x : Int) : Decidable (fits x) := by unfold fits; infer_instance
theorem bthen {w w1 w2 : World} {B : Nat} (h : Below B w w1) (h2 : Below w1.heap.size w1 w2) (hB : B ≤ w1.heap.size) : Below B w w2 := h.trans (h2.mono hB)
end Go.Proofs.Ytadoecimcbgkjaa
