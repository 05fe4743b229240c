/- What the program's reader sees: the next token, and whether it is one of some signs. Conditions: the reader and its tokens lie in memory. -/
import Derived.Test.YtoicncfpoklanaaDoorG
import Derived.Test.YtoicncfpoklanaaDoorTree
namespace Go.Proofs.YtoicncfpoklanaaDoor
open Go.RowKit
set_option maxRecDepth 100000

theorem toksC_get : ∀ (ts : List Tok) (i j : Nat) (t : Tok), ts[i]? = some t → j < 4 → (toksC ts)[i * 4 + j]? = (tokC t)[j]?
  | [], i, j, t, h, _ => by simp at h
  | x :: ts, 0, j, t, h, hj => by
    simp at h
    subst h
    show (tokC x ++ toksC ts)[0 * 4 + j]? = _
    rw [List.getElem?_append_left (by simp [tokC]; omega)]
    simp
  | x :: ts, i + 1, j, t, h, hj => by
    have ih := toksC_get ts i j t (by simpa using h) hj
    show (tokC x ++ toksC ts)[(i + 1) * 4 + j]? = _
    rw [List.getElem?_append_right (by simp [tokC]; omega)]
    rw [show (i + 1) * 4 + j - (tokC x).length = i * 4 + j by simp [tokC]; omega]
    exact ih
/-- the token at a place of a row -/
def TokAt (w : World) (g i : Nat) (t : Tok) : Prop :=
  w.cell? ⟨g, i * 4, none⟩ = some (.int .i64 t.kind) ∧ w.cell? ⟨g, i * 4 + 1, none⟩ = some (.string (strN t.text)) ∧ w.cell? ⟨g, i * 4 + 2, none⟩ = some (.int .i64 t.num) ∧ w.cell? ⟨g, i * 4 + 3, none⟩ = some (.int .i64 t.place)
/-- what is read: the tokens and where they lie, and how long the source is -/
structure Src where
  g : Option Nat
  c : Nat
  all : List Tok
  z : Nat
def Src.V (S : Src) : Value := .slice (S.g.map fun g => ⟨g, 0, none⟩) S.all.length S.c
/-- the tokens lie in memory, ahead of the block R -/
def Src.Ok (S : Src) (w : World) (R : Nat) : Prop :=
  S.all.length ≤ S.c ∧ S.c ≤ maxLen ∧ (∀ t ∈ S.all, Byn t.text) ∧ (S.g = none → S.all = []) ∧ ∀ g, S.g = some g → g < R ∧ ∀ i t, S.all[i]? = some t → TokAt w g i t
def rdO (S : Src) (i : Nat) : Obj := .cells #[S.V, .int .i64 i, .int .i64 S.z] 59 (0, 0)
/-- the reader at block R has these tokens ahead -/
def At (w : World) (R : Nat) (S : Src) (ts : List Tok) : Prop :=
  S.Ok w R ∧ ∃ i, i ≤ S.all.length ∧ ts = S.all.drop i ∧ w.heap[R]? = some (rdO S i)
/-- all but the block R, and what was not there, is as it was -/
def Moves (R : Nat) (w w' : World) : Prop := w.grownBy w' (some R)
theorem Moves.refl (R : Nat) (w : World) : Moves R w w := World.grownBy.refl _ _
theorem Moves.trans {R : Nat} {a b c : World} (h : Moves R a b) (k : Moves R b c) : Moves R a c := grown_trans h k
theorem Moves.below {R B : Nat} {a b c : World} (h : Moves R a b) (k : Below B b c) (hB : b.heap.size ≤ B) : Moves R a c :=
  h.trans ⟨k.os, k.tape, k.output, k.size, fun i hi _ => k.block i (by omega)⟩
theorem Moves.of_below {R B : Nat} {b c : World} (k : Below B b c) (hB : b.heap.size ≤ B) : Moves R b c := (Moves.refl R b).below k hB
theorem Moves.same {R : Nat} {D : Nat → Prop} {w w' : World} (h : Moves R w w') (hD : ∀ k, D k → k < w.heap.size ∧ k ≠ R) : Same D w w' := fun k h1 => h.block k (hD k h1).1 (by intro e; injection e with e; exact (hD k h1).2 e)
theorem Moves.cell {R : Nat} {w w' : World} (h : Moves R w w') {a : Addr} (h1 : a.block < w.heap.size) (h2 : a.block ≠ R) : w'.cell? a = w.cell? a := World.cell?_of_block (h.block _ h1 (by intro e; injection e; omega))
theorem TokAt.of {w w' : World} {g i : Nat} {t : Tok} (h : TokAt w g i t) (hb : w'.heap[g]? = w.heap[g]?) : TokAt w' g i t := by
  have e : ∀ o, w'.cell? ⟨g, o, none⟩ = w.cell? ⟨g, o, none⟩ := fun o => World.cell?_of_block hb
  unfold TokAt
  rw [e, e, e, e]
  exact h
theorem Src.Ok.of {S : Src} {w w' : World} {R : Nat} (h : S.Ok w R) (hb : ∀ k, k < R → w'.heap[k]? = w.heap[k]?) : S.Ok w' R :=
  ⟨h.1, h.2.1, h.2.2.1, h.2.2.2.1, fun g hg => ⟨(h.2.2.2.2 g hg).1, fun i t ht => ((h.2.2.2.2 g hg).2 i t ht).of (hb g (h.2.2.2.2 g hg).1)⟩⟩
theorem At.lt {w : World} {R : Nat} {S : Src} {ts : List Tok} (h : At w R S ts) : R < w.heap.size := by
  obtain ⟨_, i, _, _, hb⟩ := h
  exact (Array.getElem?_eq_some_iff.1 hb).1
theorem At.below {w w' : World} {R B : Nat} {S : Src} {ts : List Tok} (h : At w R S ts) (hb : Below B w w') (hB : w.heap.size ≤ B) : At w' R S ts := by
  have hl := h.lt
  obtain ⟨h1, i, h2, h3, h4⟩ := h
  exact ⟨h1.of fun k hk => hb.block k (by omega), i, h2, h3, by rw [hb.block R (by omega)]; exact h4⟩

def tokV (t : Tok) : Value := .agg (tokC t).toArray
theorem below_cells (g o : Nat) : ∀ (cs : List Value) (w : World), Below g w (w.setCells g o cs) ∧ (∀ k, k ≠ g → (w.setCells g o cs).heap[k]? = w.heap[k]?) ∧ (w.setCells g o cs).heap.size = w.heap.size := by
  intro cs
  induction cs generalizing o with
  | nil => exact fun w => ⟨Below.refl _ _, fun _ _ => rfl, rfl⟩
  | cons c cs ih =>
    intro w
    have h := ih (o + 1) (w.setCell ⟨g, o, none⟩ c)
    refine ⟨((Below.refl g w).setCell (p := ⟨g, o, none⟩) (Nat.le_refl _) c).trans h.1, fun k hk => ?_, h.2.2.trans (by simp [World.setCell])⟩
    have h2 := h.2.1 k hk
    rw [Below.heap_setCell _ _ _ _ hk] at h2
    exact h2
/-- a struct is stored in a variable of its own -/
theorem wpList_storeN {ops : Array Oper} {rest : List Oper} {o : Oper} {a : Act} {w : World} {Q : Exit → Act → World → Prop} {T n : Nat} (hi : (Tryd.prog.info? T).map (·.size) = some n) (hgd : o.guard = none) (x y : Operand) (ho : o.op = .store T x y) (hd : o.dst = none)
    (g : Nat) (hx : a.eval x = .pointer (some ⟨g, 0, none⟩)) (cs : List Value) (hl : cs.length = n) (hy : a.eval y = .agg cs.toArray) (ht : w.there g 0 n) (h1 : ∀ u ∈ cs, u.oneCell' = true)
    (h : ∀ w', w'.rangeAt g 0 cs → w'.there g 0 n → Below g w w' → (∀ k, k ≠ g → w'.heap[k]? = w.heap[k]?) → w'.heap.size = w.heap.size → wpList Tryd.prog ops Q rest a w') : wpList Tryd.prog ops Q (o :: rest) a w := by
  subst hl
  refine wpList_store_mid hgd T x y ho g 0 cs.toArray hx hy (by simpa using ht) (by simpa using hi) (by simpa using h1) ?_
  have hb := below_cells g 0 cs w
  have := h (w.setCells g 0 cs) (World.rangeAt_setCells_same w g 0 _ (by simpa using ht)) (World.there_setCells ht _ _ _) hb.1 hb.2.1 hb.2.2
  rw [hd]
  exact this
/-- a struct in the block where a function's result lies -/
theorem ret_cell {fn : Func} {s T : Nat} {d : TypeDesc} {cs : List Value} (h : fn.results = #[.cell s T]) (hu : Tryd.prog.underlying T = some d) (hd : d.isRow = true) (hi : (Tryd.prog.info? T).map (·.size) = some cs.length) (tmps : Array Value) (w : World) (g : Nat) (hp : tmps.getD s undef = .pointer (some ⟨g, 0, none⟩)) (hr : w.rangeAt g 0 cs) :
    (results fn tmps).run Tryd.prog w = .ok (.agg cs.toArray) w := by
  have hp' : tmps[s]?.getD undef = .pointer (some ⟨g, 0, none⟩) := by simpa using hp
  have h1 := run_loadVar_mid (P := Tryd.prog) w g 0 T cs _ hr hu hd hi
  simp [results, h, hp', asAddr, h1]
/-- a block of cells, as a range -/
theorem range_of {w : World} {g : Nat} {cs : List Value} {T : TypeId} (h : w.heap[g]? = some (.cells cs.toArray T (0, 0))) : w.rangeAt g 0 cs := by
  intro j v hv
  rw [cell_of_row _ _ _ _ _ _ h]
  simpa using hv
theorem there_cells {w : World} {g n : Nat} {cs : List Value} {T : TypeId} (h : w.heap[g]? = some (.cells cs.toArray T (0, 0))) (hn : cs.length = n) : w.there g 0 n := by
  intro j hj
  constructor
  · rw [cell_of_row _ _ _ _ _ _ h]
    simp
    omega
  · simp [World.frozen?, h]
theorem info77s : (Tryd.prog.info? 77).map (·.size) = some 4 := by kernel_rfl
theorem info39s : (Tryd.prog.info? 39).map (·.size) = some 5 := by kernel_rfl
theorem info43s : (Tryd.prog.info? 43).map (·.size) = some 6 := by kernel_rfl
theorem info47s : (Tryd.prog.info? 47).map (·.size) = some 5 := by kernel_rfl

theorem At.cells {w : World} {R : Nat} {S : Src} {i : Nat} (h : w.heap[R]? = some (rdO S i)) : w.cell? ⟨R, 0, none⟩ = some S.V ∧ w.cell? ⟨R, 1, none⟩ = some (.int .i64 i) ∧ w.cell? ⟨R, 2, none⟩ = some (.int .i64 S.z) :=
  ⟨by rw [cell_of_row _ _ _ _ _ _ h]; rfl, by rw [cell_of_row _ _ _ _ _ _ h]; rfl, by rw [cell_of_row _ _ _ _ _ _ h]; rfl⟩

set_option maxHeartbeats 800000 in
theorem peek (R : Nat) (S : Src) (ts : List Tok) (w : World) (ha : At w R S ts) :
    Calls Tryd.prog 36 #[.pointer (some ⟨R, 0, none⟩)] w fun e w' => e = .returned (tokV (peekT S.z ts)) ∧ Below w.heap.size w w' := by
  have b0 := Lib.hid (below_alloc w (.cells #[.int .i64 0, .string ⟨#[]⟩, .int .i64 0, .int .i64 0] 77))
  have ha' := ha.below b0.out (Nat.le_refl _)
  obtain ⟨h1, i, h2, h3, h4⟩ := ha'
  obtain ⟨c0, c1, c2⟩ := At.cells h4
  have hc := h1.1
  have hm := h1.2.1
  have hm' := hm
  unfold maxLen at hm'
  have hne : R ≠ w.heap.size := Nat.ne_of_lt ha.lt
  have HB : Hid (∀ n, Below w.heap.size w ((w.alloc (.cells #[.int .i64 0, .string ⟨#[]⟩, .int .i64 0, .int .i64 0] 77)).drewN n) ∧ ((w.alloc (.cells #[.int .i64 0, .string ⟨#[]⟩, .int .i64 0, .int .i64 0] 77)).drewN n).there w.heap.size 0 4) := fun n =>
    ⟨below_drewN b0.out n, there_cells (cs := [.int .i64 0, .string ⟨#[]⟩, .int .i64 0, .int .i64 0]) (heap_alloc_new w _) rfl⟩
  unfold Src.V at c0
  clear ha
  by_cases hi : i = S.all.length
  · subst hi
    have HT : Hid (ts = []) := by rw [h3]; simp [Hid]
    clear h1 h3 h4
    go_enter Tryd.func36, Tryd.ntmps36
    go_wp2_with fail
    go_quiet (fail)
    go_wp2_with (refine wpList_storeN info77s rfl (.tmp 2) (.tmp 17) rfl rfl w.heap.size rfl [_, _, _, _] rfl rfl (HB.out _).2 (by simp [Value.oneCell']) ?_; intro w3 g1 g2 g3 g4 g5)
    refine bodyPost_ret (ret_cell (cs := [_, _, _, _]) Tryd.results36 Tryd.underlying77 rfl info77s _ _ w.heap.size rfl g1) rfl ?_
    exact ⟨by rw [HT.out]; rfl, (HB.out _).1.trans g3⟩
  · have hlt : i < S.all.length := by omega
    have hg : S.all[i]? = some S.all[i] := List.getElem?_eq_getElem hlt
    have hts : ts = S.all[i] :: S.all.drop (i + 1) := by rw [h3, List.drop_eq_getElem_cons hlt]
    generalize S.all[i] = t at hg hts
    have HT := Lib.hid hts
    have hgo : ∃ g, S.g = some g := by
      cases hgg : S.g with
      | none => rw [h1.2.2.2.1 hgg] at hlt; simp at hlt
      | some g => exact ⟨g, rfl⟩
    obtain ⟨g, hgg⟩ := hgo
    have htok := (h1.2.2.2.2 g hgg).2 i t hg
    obtain ⟨k0, k1, k2, k3⟩ := htok
    rw [hgg] at c0
    simp only [Option.map_some] at c0
    have hne2 : ((i : Int) == (S.all.length : Int)) = false := by rw [beq_eq_false_iff_ne]; omega
    clear h1 h3 h4 hts hg hi
    go_enter Tryd.func36, Tryd.ntmps36
    go_wp2_with fail
    go_quiet (fail)
    go_wp2_with fail
    go_region
    go_wp2
    refine bodyPost_ret (ret_cell (cs := [_, _, _, _]) Tryd.results36 Tryd.underlying77 rfl info77s _ _ w.heap.size rfl (World.rangeAt_setCells_same _ w.heap.size 0 [_, _, _, _] (HB.out _).2)) rfl ?_
    exact ⟨by rw [HT.out]; rfl, (HB.out _).1.trans (below_cells w.heap.size 0 [_, _, _, _] _).1⟩
end Go.Proofs.YtoicncfpoklanaaDoor
