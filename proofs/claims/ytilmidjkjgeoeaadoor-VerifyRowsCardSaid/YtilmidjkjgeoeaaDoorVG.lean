/- What a step keeps; a type put on top of a stack. Conditions: those in each theorem. -/
import Derived.Test.YtilmidjkjgeoeaaDoorVF
namespace Go.Proofs.YtilmidjkjgeoeaaDoor
open Go.RowKit Go.MapKept
set_option maxRecDepth 100000
set_option linter.unusedVariables false
set_option linter.unusedSimpArgs false
/-- all below B is as it was, and so are the blocks of all types but those in ts -/
structure Mt (B : Nat) (ts : TypeId → Prop) (w w' : World) : Prop where
  low : Below B w w'
  kept : ∀ (b : Nat) (cs : Array Value) (T : TypeId) (z : Nat × Nat), w.heap[b]? = some (.cells cs T z) → ¬ ts T → w'.heap[b]? = some (.cells cs T z)
theorem Mt.refl (B : Nat) (ts : TypeId → Prop) (w : World) : Mt B ts w w := ⟨.refl _ _, fun _ _ _ _ h _ => h⟩
theorem Mt.trans {B : Nat} {ts : TypeId → Prop} {a b c : World} (h : Mt B ts a b) (k : Mt B ts b c) : Mt B ts a c := ⟨h.low.trans k.low, fun i cs T z hi hT => k.kept i cs T z (h.kept i cs T z hi hT) hT⟩
theorem Mt.more {B : Nat} {ts us : TypeId → Prop} {w w' : World} (h : Mt B ts w w') (hu : ∀ T, ts T → us T) : Mt B us w w' := ⟨h.low, fun b cs T z hb hT => h.kept b cs T z hb fun e => hT (hu T e)⟩
theorem lt_someV {w : World} {b : Nat} {o : Obj} (h : w.heap[b]? = some o) : b < w.heap.size := (Array.getElem?_eq_some_iff.1 h).1
theorem Mt.of {B : Nat} {ts : TypeId → Prop} {w w' : World} (h : Below w.heap.size w w') (hB : B ≤ w.heap.size) : Mt B ts w w' := ⟨h.mono hB, fun b cs T z hb _ => by rw [h.block b (lt_someV hb)]; exact hb⟩
theorem Mt.grown {B : Nat} {ts : TypeId → Prop} {w w' : World} {o : Option Nat} (h : w.grownBy w' o) (hB : B ≤ w.heap.size) (ho : ∀ g, o = some g → B ≤ g ∧ ∀ (cs : Array Value) (T : TypeId) (z : Nat × Nat), w.heap[g]? = some (.cells cs T z) → ts T) : Mt B ts w w' :=
  ⟨⟨h.os, h.tape, h.output, h.size, fun k hk => h.block k (by omega) fun e => by have := (ho k e.symm).1; omega⟩, fun b cs T z hb hT => by
    rw [h.block b (lt_someV hb) fun e => hT ((ho b e.symm).2 cs T z hb)]
    exact hb⟩
theorem one_tag {w : World} {g : Nat} {cs cs' : Array Value} {T T' : TypeId} {z z' : Nat × Nat} (h : w.heap[g]? = some (.cells cs T z)) (k : w.heap[g]? = some (.cells cs' T' z')) : T = T' := by
  rw [h] at k
  injection k with k
  injection k with _ k _
theorem own_tag {w : World} {B T size n : Nat} {V : Value} {xs : List Value} (h : w.ownsRow B T size V n xs) {g : Nat} (hg : V.ownBlock = some g) : B ≤ g ∧ ∃ cs, w.heap[g]? = some (.cells cs T (0, 0)) := by
  rcases h.2 with ⟨rfl, _⟩ | ⟨g', cap, cur, rfl, h1, h2, _⟩
  · cases hg
  · obtain rfl : g' = g := by injection hg
    exact ⟨h1, cur, h2⟩
theorem own_same {w w' : World} {B T size n : Nat} {V : Value} {xs : List Value} (h : w.ownsRow B T size V n xs) (hs : ∀ g cs, V.ownBlock = some g → w.heap[g]? = some (.cells cs T (0, 0)) → w'.heap[g]? = some (.cells cs T (0, 0))) : w'.ownsRow B T size V n xs := by
  refine ⟨h.1, ?_⟩
  rcases h.2 with h' | ⟨g, cap, cur, rfl, h1, h2, h3⟩
  · exact .inl h'
  · exact .inr ⟨g, cap, cur, rfl, h1, hs g cur rfl h2, h3⟩
/-- the walk stays where its blocks stay -/
theorem WkAt.same {B W : Nat} {x : Wx} {L V R : Value} {w w' : World} (h : WkAt B W x L V R w) (h1 : ∀ (b : Nat) (cs : Array Value) (T : TypeId), w.heap[b]? = some (.cells cs T (0, 0)) → T = 61 ∨ T = 81 ∨ T = 71 ∨ T = 2 → w'.heap[b]? = some (.cells cs T (0, 0))) (h2 : w'.heap[x.m]? = w.heap[x.m]?) : WkAt B W x L V R w' :=
  ⟨h1 _ _ _ h.cell (by simp), own_same h.list fun g cs _ hg => h1 g cs _ hg (by simp), h.map.of h2, own_same h.pl fun g cs _ hg => h1 g cs _ hg (by simp), own_same h.rem fun g cs _ hg => h1 g cs _ hg (by simp), h.hW, h.hm, h.h0⟩
theorem WkAt.below {B W : Nat} {x : Wx} {L V R : Value} {w w' : World} (h : WkAt B W x L V R w) (hb : Below w.heap.size w w') : WkAt B W x L V R w' :=
  h.same (fun b cs T hc _ => by rw [hb.block b (lt_someV hc)]; exact hc) (hb.block _ h.map.lt)
theorem map_no {w : World} {m : Nat} {es : List (Stk × Nat)} (h : MapE w m es) {cs : Array Value} {T : TypeId} {z : Nat × Nat} (k : w.heap[m]? = some (.cells cs T z)) : False := by
  obtain ⟨arr, c, h1, _⟩ := h
  rw [h1] at k
  cases k
/-- another block changes -/
theorem WkAt.other {B W : Nat} {x : Wx} {L V R : Value} {w w' : World} {S : Nat} {cs : Array Value} {T : TypeId} {z : Nat × Nat} (h : WkAt B W x L V R w) (hg : w.grownBy w' (some S)) (hS : w.heap[S]? = some (.cells cs T z)) (hT : ¬ (T = 61 ∨ T = 81 ∨ T = 71 ∨ T = 2)) : WkAt B W x L V R w' := by
  refine h.same (fun b cs' T' hc hT' => ?_) (hg.block _ h.map.lt fun e => ?_)
  · rw [hg.block b (lt_someV hc) fun e => ?_]
    · exact hc
    · injection e with e
      subst e
      exact hT (by rw [one_tag hS hc]; exact hT')
  · injection e with e
    subst e
    exact map_no h.map hS
theorem WkAt.lt {B W : Nat} {x : Wx} {L V R : Value} {w : World} (h : WkAt B W x L V R w) : W < w.heap.size ∧ B ≤ w.heap.size := ⟨lt_someV h.cell, Nat.le_trans h.hW (Nat.le_of_lt (lt_someV h.cell))⟩
theorem seekE_at : ∀ (k : Nat) (l : List Stk) (s : Stk), (seekE (numE k l) s = none ∧ s ∉ l) ∨ ∃ i, seekE (numE k l) s = some (k + i) ∧ l[i]? = some s
  | k, [], s => .inl ⟨rfl, by simp⟩
  | k, e :: l, s => by
    by_cases h : e = s
    · exact .inr ⟨0, by simp [seekE, numE, h], by simp [h]⟩
    · have e1 : seekE (numE k (e :: l)) s = seekE (numE (k + 1) l) s := by
        show seekE ((e, k) :: numE (k + 1) l) s = _
        unfold seekE
        rw [List.find?_cons_of_neg (by simpa using h)]
      rcases seekE_at (k + 1) l s with ⟨h1, h2⟩ | ⟨i, h1, h2⟩
      · exact .inl ⟨by rw [e1]; exact h1, by simp [h2]; exact fun q => h q.symm⟩
      · exact .inr ⟨i + 1, by rw [e1, h1]; congr 1; omega, by simpa using h2⟩
theorem numE_snoc : ∀ (k : Nat) (l : List Stk) (s : Stk), numE k (l ++ [s]) = numE k l ++ [(s, k + l.length)]
  | k, [], s => by simp [numE]
  | k, e :: l, s => by
    rw [List.cons_append]
    unfold numE
    rw [numE_snoc (k + 1) l s, List.cons_append]
    congr 4
    simp
    omega
/-- the stack's number behind a push -/
def Grew (E E' : List Stk) (e : Stk) (k : Nat) : Prop := (E' = E ∧ 1 ≤ k ∧ E[k]? = some e) ∨ (E' = E ++ [e] ∧ k = E.length ∧ e ∉ E.tail)
theorem info81s : (Tryd.prog.info? 81).map (·.size) = some 3 := by kernel_rfl
theorem info81 : (Tryd.prog.info? 81).map (fun i => (i.zero, i.size, i.bytes)) = some (some (.agg #[.int .i64 0, .int .i64 0, .int .i64 0]), 3, 24) := by kernel_rfl
def tsP : TypeId → Prop := fun T => T = 61 ∨ T = 81 ∨ T = 67
def tsQ : TypeId → Prop := fun T => T = 61 ∨ T = 81
theorem below_alloc (w : World) (o : Obj) : Below w.heap.size w (w.alloc o) := (Below.refl w.heap.size w).alloc (Nat.le_refl _) o
theorem _root_.Go.RowKit.Below.cell_is {B : Nat} {w w' : World} (h : Below B w w') {b o : Nat} {v : Value} (hb : b < B) (hc : w.cell? ⟨b, o, none⟩ = some v) : w'.cell? ⟨b, o, none⟩ = some v := by rw [h.cell (show (Addr.mk b o none).block < B from hb)]; exact hc
theorem below_allocD (w : World) (o : Obj) : Below w.heap.size w (w.alloc o).drew := ((Below.refl w.heap.size w).alloc (Nat.le_refl _) o).drew
theorem heap_alloc_newD (w : World) (o : Obj) : (w.alloc o).drew.heap[w.heap.size]? = some o := heap_alloc_new w o
theorem Mt.map {B m : Nat} {ts : TypeId → Prop} {w w' : World} {es : List (Stk × Nat)} (h : w.grownBy w' (some m)) (hB : B ≤ w.heap.size) (hm : MapE w m es) (hb : B ≤ m) : Mt B ts w w' :=
  Mt.grown h hB fun g hg => by
    injection hg with hg
    subst hg
    exact ⟨hb, fun cs T z hc => (map_no hm hc).elim⟩
theorem tail_snoc {α : Type} {l : List α} (h : 0 < l.length) (x : α) : (l ++ [x]).tail = l.tail ++ [x] := by
  cases l with
  | nil => simp at h
  | cons a l => rfl
/-- the walk behind a push of a new stack -/
theorem WkAt.pushed {B W : Nat} {x : Wx} {L V R L' : Value} {w2 w3 w4 w5 : World} {e : Stk} (h : WkAt B W x L V R w2) (hm3 : MapE w3 x.m (numE 1 x.E.tail ++ [(e, x.E.length)])) (hg3 : w2.grownBy w3 (some x.m)) (b4 : Below w3.heap.size w3 w4)
    (ho5 : w5.ownsRow B 81 3 L' (x.E.length + 1) (x.E.flatMap skC ++ skC e)) (hg5 : w4.grownBy w5 L.ownBlock) :
    WkAt B W { x with E := x.E ++ [e] } L' V R (w5.setCell ⟨W, 0, none⟩ L') ∧ Mt B tsQ w2 (w5.setCell ⟨W, 0, none⟩ L') := by
  have hB := h.lt.2
  have M3 : Mt B tsQ w2 w3 := Mt.map hg3 hB h.map h.hm
  have M4 : Mt B tsQ w3 w4 := Mt.of b4 (Nat.le_trans hB hg3.size)
  have l3 : w3.ownsRow B 81 3 L x.E.length (x.E.flatMap skC) := own_same h.list fun g cs _ hc => by
    rw [hg3.block g (lt_someV hc) fun e => by injection e with e; subst e; exact map_no h.map hc]
    exact hc
  have l4 : w4.ownsRow B 81 3 L x.E.length (x.E.flatMap skC) := own_same l3 fun g cs _ hc => by
    rw [b4.block g (lt_someV hc)]
    exact hc
  have hother : ∀ (b : Nat) (cs : Array Value) (T : TypeId), w2.heap[b]? = some (.cells cs T (0, 0)) → T ≠ 81 → w5.heap[b]? = some (.cells cs T (0, 0)) := fun b cs T hc hT => by
    have c3 : w3.heap[b]? = some (.cells cs T (0, 0)) := by
      rw [hg3.block b (lt_someV hc) fun e => by injection e with e; subst e; exact map_no h.map hc]
      exact hc
    have c4 : w4.heap[b]? = some (.cells cs T (0, 0)) := by rw [b4.block b (lt_someV c3)]; exact c3
    rw [hg5.block b (lt_someV c4) fun e => ?_]
    · exact c4
    · obtain ⟨_, cs', h'⟩ := own_tag l4 e.symm
      exact hT (one_tag c4 h')
  have cW := hother W _ 61 h.cell (by decide)
  have far : ∀ (b : Nat) (cs : Array Value) (T : TypeId), w5.heap[b]? = some (.cells cs T (0, 0)) → T ≠ 61 → (w5.setCell ⟨W, 0, none⟩ L').heap[b]? = some (.cells cs T (0, 0)) := fun b cs T hc hT => by
    rw [(One.set w5 W 0 L').far b fun e => by subst e; exact hT (one_tag hc cW)]
    exact hc
  have hm5 : w5.heap[x.m]? = w3.heap[x.m]? := by
    have q1 : x.m < w3.heap.size := hm3.lt
    rw [hg5.block _ (Nat.lt_of_lt_of_le q1 b4.size) fun e => ?_, b4.block _ q1]
    obtain ⟨_, cs', h'⟩ := own_tag l4 e.symm
    rw [b4.block _ q1] at h'
    exact map_no hm3 h'
  have hmW : x.m ≠ W := fun e => by
    rw [← e, hm5] at cW
    exact map_no hm3 cW
  refine ⟨⟨?_, ?_, ?_, ?_, ?_, h.hW, h.hm, by show 0 < (x.E ++ [e]).length; simp⟩, ?_⟩
  · rw [heap_setCell_same _ _ _ _ 61 _ cW]
    rfl
  · have := own_same ho5 (w' := w5.setCell ⟨W, 0, none⟩ L') fun g cs _ hc => far g cs 81 hc (by decide)
    show (w5.setCell ⟨W, 0, none⟩ L').ownsRow B 81 3 L' (x.E ++ [e]).length ((x.E ++ [e]).flatMap skC)
    rw [List.length_append, List.flatMap_append]
    simpa using this
  · show MapE _ x.m (numE 1 (x.E ++ [e]).tail)
    rw [tail_snoc h.h0, numE_snoc]
    have e1 : 1 + x.E.tail.length = x.E.length := by have := h.h0; simp; omega
    rw [e1]
    exact (hm3.of hm5).of ((One.set w5 W 0 L').far _ hmW)
  · exact own_same h.pl fun g cs _ hc => far g cs 71 (hother g cs 71 hc (by decide)) (by decide)
  · exact own_same h.rem fun g cs _ hc => far g cs 2 (hother g cs 2 hc (by decide)) (by decide)
  · have M5 : Mt B tsQ w4 w5 := Mt.grown hg5 (Nat.le_trans hB (Nat.le_trans hg3.size b4.size)) fun g hg => ⟨(own_tag l4 hg).1, fun cs T z hc => by
      obtain ⟨_, cs', h'⟩ := own_tag l4 hg
      exact .inr (one_tag hc h')⟩
    have M6 : Mt B tsQ w5 (w5.setCell ⟨W, 0, none⟩ L') := Mt.grown (One.set w5 W 0 L').grown (Nat.le_trans hB (Nat.le_trans hg3.size (Nat.le_trans b4.size hg5.size))) fun g hg => by
      injection hg with hg
      subst hg
      exact ⟨h.hW, fun cs T z hc => .inl (one_tag hc cW)⟩
    exact ((M3.trans M4).trans M5).trans M6
theorem one_drew {g : Nat} {w w' : World} (h : One g w w') : w.grownBy w'.drew (some g) := h.drew.grown
def PushQ (B W : Nat) (x : Wx) (V R : Value) (S n : Nat) (xs : List Nat) (h : Nat) (t : Int) (w : World) (r : Ending) (w' : World) : Prop :=
  ((t = 0 ∨ 2100 < h + 1) ∧ r = .returned (.bool false) ∧ Below w.heap.size w w') ∨
  (¬ (t = 0 ∨ 2100 < h + 1) ∧ r = .returned (.bool true) ∧ ∃ k E' L', Grew x.E E' (t, n, h + 1) k ∧ WkAt B W { x with E := E' } L' V R w' ∧ w'.heap[S]? = some (stO k xs) ∧ Mt B tsP w w')
set_option maxHeartbeats 1600000 in
theorem pushC {B W : Nat} {x : Wx} {L V R : Value} (S n : Nat) (xs : List Nat) (e : Stk) (t : Int) (w : World) (h : WkAt B W x L V R w) (hs : w.heap[S]? = some (stO n xs)) (he : x.E[n]? = some e) (hB : B ≤ S) (hl : x.E.length ≤ 1000000000) (hh : e.2.2 ≤ 2100) :
    Calls Tryd.prog 34 #[.pointer (some ⟨W, 0, none⟩), .pointer (some ⟨S, 0, none⟩), .int .i64 t] w (PushQ B W x V R S n xs e.2.2 t w) := by
  have hn := (List.getElem?_eq_some_iff.1 he).1
  obtain ⟨g, c, cur, rfl, h1, h2, h3, h4, h5, h6⟩ := own_pos h.list (by omega)
  obtain ⟨f1, f2, f3⟩ := sk_flat he
  have c3 := cell_at h4 (h6 _ _ f3)
  obtain ⟨s1, s2⟩ := st_cell hs
  obtain ⟨q0, q1, _⟩ := wk_cells h.cell
  have l1 : g < w.heap.size := lt_someV h4
  have l2 : S < w.heap.size := lt_someV hs
  have l3 : W < w.heap.size := h.lt.1
  have l4 : x.m < w.heap.size := h.map.lt
  have HS := Lib.hid (And.intro h hs)
  unfold maxLen at h2
  obtain ⟨t0, b0, h0⟩ := e
  dsimp only at c3 hh ⊢
  clear h he f1 f2 f3 h3 h4 h5 h6 hs
  have hzz : (0 : Int) ≤ (h0 : Int) ∧ (h0 : Int) ≤ 2100 := by omega
  go_enter Tryd.func34, Tryd.ntmps34
  go_wp2_with fail
  go_region
  generalize hW1 : (w.alloc (Obj.cells #[Value.int IntKind.i64 t, Value.int IntKind.i64 n, Value.int IntKind.i64 ((h0 : Int) + 1)] 81)).drew = w1
  have B1 : Below w.heap.size w w1 := by rw [← hW1]; exact ((Below.refl w.heap.size w).alloc (Nat.le_refl _) _).drew
  have A1 : w1.heap[w.heap.size]? = some (.cells #[Value.int IntKind.i64 t, Value.int IntKind.i64 n, Value.int IntKind.i64 ((h0 : Int) + 1)] 81 (0, 0)) := by rw [← hW1]; exact heap_alloc_new w _
  have K1 := HS.out.1.below B1
  have S1 : w1.heap[S]? = some (stO n xs) := by rw [B1.block _ l2]; exact HS.out.2
  have l4 : w.heap.size < w1.heap.size := lt_someV A1
  have l5 : W < w1.heap.size := K1.lt.1
  have l6 : S < w1.heap.size := lt_someV S1
  have a0 := cell_at A1 (j := 0) rfl
  have a1 := cell_at A1 (j := 1) rfl
  have a2 := cell_at A1 (j := 2) rfl
  obtain ⟨s3, s4⟩ := st_cell S1
  have b0' := (wk_cells K1.cell).1
  have b1' := (wk_cells K1.cell).2.1
  have HZ := Lib.hid (And.intro B1 (And.intro A1 (And.intro K1 S1)))
  clear hW1 B1 A1 K1 S1 q0 q1 s1 s2 c3
  by_cases ht : t = 0
  · subst ht
    go_wp2
    go_ret
    exact .inl ⟨.inl rfl, rfl, HZ.out.1⟩
  · by_cases hb : 2100 < h0 + 1
    · have HG : Hid (((t = 0 ∨ 2100 < h0 + 1))) := .inr hb
      have hb' : (2100 : Int) < (h0 : Int) + 1 := by omega
      go_wp2
      go_ret
      exact .inl ⟨HG.out, rfl, HZ.out.1⟩
    · have HG : Hid (¬ ((t = 0 ∨ 2100 < h0 + 1))) := fun e => e.elim ht hb
      have hb' : ¬ (2100 : Int) < (h0 : Int) + 1 := by omega
      have HL : ∀ n : Nat, True := fun _ => trivial
      have hk : kV (t, n, h0 + 1) = .agg #[.int .i64 t, .int .i64 n, .int .i64 ((h0 : Int) + 1)] := rfl
      rcases seekE_at 1 x.E.tail (t, n, h0 + 1) with ⟨g1, g2⟩ | ⟨i, g1, g2⟩
      · have hq := run_lookE (w := w1.drew) (HZ.out.2.2.1.map.of rfl) (t, n, h0 + 1)
        rw [g1, hk] at hq
        have hq2 : (Instr.lookup 54 (.map (some x.m)) (.agg #[.int .i64 t, .int .i64 n, .int .i64 ((h0 : Int) + 1)]) true).run Tryd.prog w1.drew = .ok (.tuple #[.int .i64 0, .bool false]) w1.drew := hq
        have HK := Lib.hid (And.intro g1 g2)
        have HKV := Lib.hid hk
        clear g1 g2 hq hk HL
        go_wp2_with fail
        go_region
        clear hq2
        have B2 : Below w.heap.size w w1.drew := HZ.out.1.drew
        have K2 : WkAt B W x _ V R w1.drew := HZ.out.2.2.1.below (Below.refl _ _).drew
        have Z2 := Lib.hid (And.intro B2 (And.intro (show w1.drew.heap[w.heap.size]? = some (.cells #[Value.int IntKind.i64 t, Value.int IntKind.i64 n, Value.int IntKind.i64 ((h0 : Int) + 1)] 81 (0, 0)) from HZ.out.2.1) (And.intro K2 (show w1.drew.heap[S]? = some (stO n xs) from HZ.out.2.2.2))))
        have l7 : w1.drew.heap.size = w1.heap.size := rfl
        rw [← l7] at l4 l5 l6
        have a0' : w1.drew.cell? ⟨w.heap.size, 0, none⟩ = some (.int .i64 t) := a0
        have a1' : w1.drew.cell? ⟨w.heap.size, 1, none⟩ = some (.int .i64 n) := a1
        have a2' : w1.drew.cell? ⟨w.heap.size, 2, none⟩ = some (.int .i64 ((h0 : Int) + 1)) := a2
        have m0 := (wk_cells K2.cell).1
        have m1 := (wk_cells K2.cell).2.1
        clear a0 a1 a2 s3 s4 b0' b1' HZ B2 K2 l7
        generalize w1.drew = w2 at *
        obtain ⟨w3, hr, hm3, hg3, hs3⟩ := run_putE (w := w2.drew) (Z2.out.2.2.1.map.of rfl) (t, n, h0 + 1) HK.out.1 x.E.length
        rw [HKV.out] at hr
        have HM3 := Lib.hid (And.intro hm3 (And.intro (show w2.grownBy w3 (some x.m) from ⟨hg3.os, hg3.tape, hg3.output, hg3.size, hg3.block⟩) (show w3.heap.size = w2.heap.size from hs3)))
        clear hm3 hg3 hs3
        go_upto_region 7 with fail
        go_region
        clear hr
        have l8 : W < w3.heap.size := by rw [HM3.out.2.2]; exact l5
        have l9 : w.heap.size < w3.heap.size := by rw [HM3.out.2.2]; exact l4
        have keep3 : ∀ (b : Nat) (cs : Array Value) (T : TypeId), w2.heap[b]? = some (.cells cs T (0, 0)) → w3.heap[b]? = some (.cells cs T (0, 0)) := fun b cs T hc => by
          rw [HM3.out.2.1.block b (lt_someV hc) fun e => by injection e with e; subst e; exact map_no Z2.out.2.2.1.map hc]
          exact hc
        have A3 := keep3 _ _ _ Z2.out.2.1
        have C3 := keep3 _ _ _ Z2.out.2.2.1.cell
        have S3 := keep3 _ _ _ Z2.out.2.2.2
        have a0 := cell_at A3 (j := 0) rfl
        have a1 := cell_at A3 (j := 1) rfl
        have a2 := cell_at A3 (j := 2) rfl
        have m0 := (wk_cells C3).1
        have KP := Lib.hid keep3
        have HA3 := Lib.hid (And.intro A3 (And.intro C3 S3))
        clear A3 C3 S3 a0' a1' a2' m1 keep3
        go_upto_region 8 with fail
        obtain ⟨i0, hi, hz0, hz1, hz2⟩ := infoV info81
        refine wp_region_held_drew (S := fun w' => w'.cell? ⟨w.heap.size, 0, none⟩ = some (.int .i64 t) ∧ w'.cell? ⟨w.heap.size, 1, none⟩ = some (.int .i64 n) ∧ w'.cell? ⟨w.heap.size, 2, none⟩ = some (.int .i64 ((h0 : Int) + 1))) (by kernel_rfl) ⟨a0, a1, a2⟩ (fun hHeld => ?_)
        refine wpAnyH_take (i := 0) (v := ?v0_1) rfl (by kernel_rfl) (by kernel_rfl) (by kernel_rfl) (fun _ _ _ h => h) (Or.inl ⟨by kernel_rfl, ?y0_1⟩) (by assumption) ?r0_1
        case y0_1 => (intro w hSw; (try dsimp only at hSw); go_simp; (try with_reducible rfl))
        try simp only [Act.put, List.getElem_toArray, List.getElem_cons_zero, List.getElem_cons_succ, List.setIfInBounds_toArray, List.set_cons_zero, List.set_cons_succ]
        refine wpAnyH_take (i := 1) (v := ?v1_2) rfl (by kernel_rfl) (by kernel_rfl) (by kernel_rfl) (fun _ _ _ h => h) (Or.inl ⟨by kernel_rfl, ?y1_2⟩) (by assumption) ?r1_2
        case y1_2 => (intro w hSw; (try dsimp only at hSw); go_simp; (try with_reducible rfl))
        try simp only [Act.put, List.getElem_toArray, List.getElem_cons_zero, List.getElem_cons_succ, List.setIfInBounds_toArray, List.set_cons_zero, List.set_cons_succ]
        refine wpAnyH_take (i := 2) (v := ?v2_3) rfl (by kernel_rfl) (by kernel_rfl) (by kernel_rfl) (fun _ _ _ h => h) (Or.inl ⟨by kernel_rfl, ?y2_3⟩) (by assumption) ?r2_3
        case y2_3 => (intro w hSw; (try dsimp only at hSw); go_simp; (try with_reducible rfl))
        try simp only [Act.put, List.getElem_toArray, List.getElem_cons_zero, List.getElem_cons_succ, List.setIfInBounds_toArray, List.set_cons_zero, List.set_cons_succ]
        refine wpAnyH_take (i := 3) (v := ?v3_4) rfl (by kernel_rfl) (by kernel_rfl) (by kernel_rfl) (fun _ _ _ h => h) (Or.inl ⟨by kernel_rfl, ?y3_4⟩) (by assumption) ?r3_4
        case y3_4 => (intro w hSw; (try dsimp only at hSw); go_simp; (try with_reducible rfl))
        try simp only [Act.put, List.getElem_toArray, List.getElem_cons_zero, List.getElem_cons_succ, List.setIfInBounds_toArray, List.set_cons_zero, List.set_cons_succ]
        refine wpAnyH_take (i := 5) (v := ?v5_5) rfl (by kernel_rfl) (by kernel_rfl) (by kernel_rfl) (fun _ _ _ h => h) (Or.inl ⟨by kernel_rfl, ?y5_5⟩) (by assumption) ?r5_5
        case y5_5 => (intro w hSw; obtain ⟨q1, q2, q3⟩ := hSw; (try dsimp only at hSw); go_simp; (try with_reducible rfl))
        try simp only [Act.put, List.getElem_toArray, List.getElem_cons_zero, List.getElem_cons_succ, List.setIfInBounds_toArray, List.set_cons_zero, List.set_cons_succ]
        have m0' : w3.drew.cell? ⟨W, 0, none⟩ = some (.slice (some ⟨g, 0, none⟩) x.E.length c) := m0
        have HH : Hid (w3.drew.cell? ⟨w.heap.size, 0, none⟩ = some (.int .i64 t) ∧ w3.drew.cell? ⟨w.heap.size, 1, none⟩ = some (.int .i64 n) ∧ w3.drew.cell? ⟨w.heap.size, 2, none⟩ = some (.int .i64 ((h0 : Int) + 1))) := Lib.hid ⟨a0, a1, a2⟩
        have HH4 : Hid ((w3.alloc (.cells #[Value.int IntKind.i64 t, Value.int IntKind.i64 n, Value.int IntKind.i64 ((h0 : Int) + 1)] 81)).drew.cell? ⟨w.heap.size, 0, none⟩ = some (.int .i64 t) ∧ (w3.alloc (.cells #[Value.int IntKind.i64 t, Value.int IntKind.i64 n, Value.int IntKind.i64 ((h0 : Int) + 1)] 81)).drew.cell? ⟨w.heap.size, 1, none⟩ = some (.int .i64 n) ∧ (w3.alloc (.cells #[Value.int IntKind.i64 t, Value.int IntKind.i64 n, Value.int IntKind.i64 ((h0 : Int) + 1)] 81)).drew.cell? ⟨w.heap.size, 2, none⟩ = some (.int .i64 ((h0 : Int) + 1))) :=
          Lib.hid ⟨(below_allocD w3 _).cell_is l9 a0, (below_allocD w3 _).cell_is l9 a1, (below_allocD w3 _).cell_is l9 a2⟩
        have m4 : (w3.alloc (.cells #[Value.int IntKind.i64 t, Value.int IntKind.i64 n, Value.int IntKind.i64 ((h0 : Int) + 1)] 81)).drew.cell? ⟨W, 0, none⟩ = some (.slice (some ⟨g, 0, none⟩) x.E.length c) := (below_allocD w3 _).cell_is l8 m0
        clear a0 a1 a2
        refine wpAnyH_ready (rs := [4, 6]) (by kernel_rfl) (by simp) ?_
        refine AllReadyH.cons rfl (fun K hK => ?_) (AllReadyH.cons rfl (fun K hK => ?_) AllReadyH.nil)
        go_simp
        refine hK.out _ _ HH.out (fun hHeld => ?_)
        clear hK K
        refine wpAnyH_ready (rs := [6]) (by kernel_rfl) (by simp) ?_
        refine AllReadyH.cons rfl (fun K hK => ?_) AllReadyH.nil
        go_simp
        refine hK.out _ _ HH4.out (fun hHeld => ?_)
        clear hK K
        rotate_left
        go_simp
        refine hK.out _ _ HH4.out (fun hHeld => ?_)
        clear hK K
        refine wpAnyH_ready (rs := [4]) (by kernel_rfl) (by simp) ?_
        refine AllReadyH.cons rfl (fun K hK => ?_) AllReadyH.nil
        go_simp
        refine hK.out _ _ HH4.out (fun hHeld => ?_)
        clear hK K
        · have HX4 := Lib.hid (below_allocD w3 (.cells #[Value.int IntKind.i64 t, Value.int IntKind.i64 n, Value.int IntKind.i64 ((h0 : Int) + 1)] 81))
          have HA4 := Lib.hid (heap_alloc_newD w3 (.cells #[Value.int IntKind.i64 t, Value.int IntKind.i64 n, Value.int IntKind.i64 ((h0 : Int) + 1)] 81))
          have q3 : w3.drew.heap.size = w3.heap.size := rfl
          have Hsz := Lib.hid q3
          clear m4 m0 m0' q3
          generalize hw4 : (w3.alloc (.cells #[Value.int IntKind.i64 t, Value.int IntKind.i64 n, Value.int IntKind.i64 ((h0 : Int) + 1)] 81)).drew = w4 at *
          have HW4 := Lib.hid hw4
          clear hw4
          have b34 : Below w3.heap.size w3 w4 := HX4.out
          have O4 : Hid (w4.ownsRow B 81 3 (.slice (some ⟨g, 0, none⟩) x.E.length c) x.E.length (x.E.flatMap skC)) := own_same Z2.out.2.2.1.list fun q cs _ hc => by
            have := KP.out q cs 81 hc
            rw [b34.block q (lt_someV this)]
            exact this
          have hBB : B ≤ w4.heap.size := Nat.le_trans Z2.out.2.2.1.lt.2 (Nat.le_trans HM3.out.2.1.size b34.size)
          have HB34 := Lib.hid b34
          have HN : Hid (∀ (j : Nat) (u : Value), (skC (t, n, h0 + 1))[j]? = some u → w4.cell? ((Addr.mk w3.heap.size 0 none).add j) = some u) := fun j u hu => by
            rw [Addr.add_mid]
            exact rangeV_of (cs := skC (t, n, h0 + 1)) HA4.out j u hu
          clear b34
          refine wpAnyH_ready (rs := [7]) (by kernel_rfl) (by simp) ?_
          refine AllReadyH.cons rfl (fun K hK => ?_) AllReadyH.nil
          refine stepR_append _ rfl (.tmp 59) (.tmp 61) 53 rfl B 81 i0 _ 3 24 Tryd.underlying53 hi hz0 hz1 hz2 rfl (by omega) _ x.E.length (x.E.flatMap skC) rfl O4.out ⟨w3.heap.size, 0, none⟩ 1 1 (skC (t, n, h0 + 1)) rfl rfl HN.out ?_ (by unfold maxLen; omega) (by omega) hBB ?_
          · intro u hu
            simp [skC] at hu
            rcases hu with rfl | rfl | rfl <;> rfl
          intro L' w5 ho5 hg5 _
          obtain ⟨Al, cl, hLl, _, _⟩ := own_slice ho5
          subst hLl
          obtain ⟨P6, M6⟩ := Z2.out.2.2.1.pushed HM3.out.1 HM3.out.2.1 HB34.out ho5 hg5
          have A5 : w5.heap[w.heap.size]? = some (.cells #[Value.int IntKind.i64 t, Value.int IntKind.i64 n, Value.int IntKind.i64 ((h0 : Int) + 1)] 81 (0, 0)) := by
            rw [hg5.block _ (Nat.lt_of_lt_of_le l9 HB34.out.size) fun e => by injection e with e; change w.heap.size = g at e; omega, HB34.out.block _ l9]
            exact HA3.out.1
          have C5 : w5.heap[W]? = some (wkO x (.slice (some ⟨g, 0, none⟩) x.E.length c) V R) := by
            have c4 : w4.heap[W]? = some (wkO x (.slice (some ⟨g, 0, none⟩) x.E.length c) V R) := by rw [HB34.out.block _ l8]; exact HA3.out.2.1
            rw [hg5.block _ (lt_someV c4) fun e => ?_]
            · exact c4
            · obtain ⟨_, cs', h'⟩ := own_tag O4.out e.symm
              exact absurd (one_tag c4 h') (by decide)
          have S6 := M6.kept S _ 67 _ Z2.out.2.2.2 (by unfold tsQ; decide)
          have HP6 := Lib.hid (And.intro P6 (And.intro M6 S6))
          have HA5 := Lib.hid A5
          obtain ⟨r0, _, _, _, _, _, _, _, _, _, rf, _, _⟩ := wk_cells C5
          have HH5 : Hid (w5.cell? ⟨w.heap.size, 0, none⟩ = some (.int .i64 t) ∧ w5.cell? ⟨w.heap.size, 1, none⟩ = some (.int .i64 n) ∧ w5.cell? ⟨w.heap.size, 2, none⟩ = some (.int .i64 ((h0 : Int) + 1))) := Lib.hid ⟨cell_at A5 rfl, cell_at A5 rfl, cell_at A5 rfl⟩
          have HH6 : Hid ((w5.setCell ⟨W, 0, none⟩ (.slice Al (x.E.length + 1) cl)).cell? ⟨w.heap.size, 0, none⟩ = some (.int .i64 t) ∧ (w5.setCell ⟨W, 0, none⟩ (.slice Al (x.E.length + 1) cl)).cell? ⟨w.heap.size, 1, none⟩ = some (.int .i64 n) ∧ (w5.setCell ⟨W, 0, none⟩ (.slice Al (x.E.length + 1) cl)).cell? ⟨w.heap.size, 2, none⟩ = some (.int .i64 ((h0 : Int) + 1))) := by
            have A6 : (w5.setCell ⟨W, 0, none⟩ (.slice Al (x.E.length + 1) cl)).heap[w.heap.size]? = _ := ((One.set w5 W 0 (.slice Al (x.E.length + 1) cl)).far _ (by omega)).trans A5
            exact Lib.hid ⟨cell_at A6 rfl, cell_at A6 rfl, cell_at A6 rfl⟩
          clear P6 M6 S6 A5 C5 ho5 hg5
          refine hK.out _ _ HH5.out (fun hHeld => ?_)
          clear hK K
          simp only [Act.put, List.setIfInBounds_toArray, List.set_cons_zero, List.set_cons_succ]
          refine wpAnyH_take (i := 8) (v := ?v8_6) rfl (by kernel_rfl) (by kernel_rfl) (by kernel_rfl) (fun _ _ _ h => h) (Or.inl ⟨by kernel_rfl, ?y8_6⟩) (by assumption) ?r8_6
          case y8_6 => (intro w hSw; (try dsimp only at hSw); go_simp; (try with_reducible rfl))
          try simp only [Act.put, List.getElem_toArray, List.getElem_cons_zero, List.getElem_cons_succ, List.setIfInBounds_toArray, List.set_cons_zero, List.set_cons_succ]
          refine wpAnyH_take (i := 9) (v := ?v9_7) rfl (by kernel_rfl) (by kernel_rfl) (by kernel_rfl) (fun _ _ _ h => h) (Or.inl ⟨by kernel_rfl, ?y9_7⟩) (by assumption) ?r9_7
          case y9_7 => (intro w hSw; (try dsimp only at hSw); go_simp; (try with_reducible rfl))
          try simp only [Act.put, List.getElem_toArray, List.getElem_cons_zero, List.getElem_cons_succ, List.setIfInBounds_toArray, List.set_cons_zero, List.set_cons_succ]
          refine wpAnyH_ready (rs := [10]) (by kernel_rfl) (by simp) ?_
          refine AllReadyH.cons rfl (fun K hK => ?_) AllReadyH.nil
          go_simp
          refine hK.out _ _ HH6.out (fun hHeld => ?_)
          clear hK K r0 rf
          refine wpAnyH_done (by kernel_rfl) ?_ _
          obtain ⟨s5, s6⟩ := st_cell HP6.out.2.2
          generalize w5.setCell ⟨W, 0, none⟩ (.slice Al (x.E.length + 1) cl) = w6 at *
          go_wp2
          go_ret
          refine .inr ⟨HG.out, rfl, x.E.length, x.E ++ [(t, n, h0 + 1)], (.slice Al (x.E.length + 1) cl), .inr ⟨rfl, rfl, HK.out.2⟩, HP6.out.1.other (One.set w6 S 0 _).grown HP6.out.2.2 (by decide), st_set HP6.out.2.2 _, ?_⟩
          have hBw := HS.out.1.lt.2
          refine ((Mt.of Z2.out.1 hBw).trans (HP6.out.2.1.more fun T hT => hT.elim .inl fun e => .inr (.inl e))).trans (Mt.grown (One.set w6 S 0 _).grown (Nat.le_trans hBw (Nat.le_trans Z2.out.1.size HP6.out.2.1.low.size)) fun q hq => ?_)
          injection hq with hq
          subst hq
          exact ⟨hB, fun cs T z hc => by
            rw [← one_tag HP6.out.2.2 hc]
            exact .inr (.inr rfl)⟩
        · have HX4 := Lib.hid (below_allocD w3 (.cells #[Value.int IntKind.i64 t, Value.int IntKind.i64 n, Value.int IntKind.i64 ((h0 : Int) + 1)] 81))
          have HA4 := Lib.hid (heap_alloc_newD w3 (.cells #[Value.int IntKind.i64 t, Value.int IntKind.i64 n, Value.int IntKind.i64 ((h0 : Int) + 1)] 81))
          have q3 : w3.drew.heap.size = w3.heap.size := rfl
          have Hsz := Lib.hid q3
          clear m4 m0 m0' q3
          generalize hw4 : (w3.alloc (.cells #[Value.int IntKind.i64 t, Value.int IntKind.i64 n, Value.int IntKind.i64 ((h0 : Int) + 1)] 81)).drew = w4 at *
          have HW4 := Lib.hid hw4
          clear hw4
          have b34 : Below w3.heap.size w3 w4 := HX4.out
          have O4 : Hid (w4.ownsRow B 81 3 (.slice (some ⟨g, 0, none⟩) x.E.length c) x.E.length (x.E.flatMap skC)) := own_same Z2.out.2.2.1.list fun q cs _ hc => by
            have := KP.out q cs 81 hc
            rw [b34.block q (lt_someV this)]
            exact this
          have hBB : B ≤ w4.heap.size := Nat.le_trans Z2.out.2.2.1.lt.2 (Nat.le_trans HM3.out.2.1.size b34.size)
          have HB34 := Lib.hid b34
          have HN : Hid (∀ (j : Nat) (u : Value), (skC (t, n, h0 + 1))[j]? = some u → w4.cell? ((Addr.mk w3.heap.size 0 none).add j) = some u) := fun j u hu => by
            rw [Addr.add_mid]
            exact rangeV_of (cs := skC (t, n, h0 + 1)) HA4.out j u hu
          clear b34
          refine wpAnyH_ready (rs := [7]) (by kernel_rfl) (by simp) ?_
          refine AllReadyH.cons rfl (fun K hK => ?_) AllReadyH.nil
          refine stepR_append _ rfl (.tmp 59) (.tmp 61) 53 rfl B 81 i0 _ 3 24 Tryd.underlying53 hi hz0 hz1 hz2 rfl (by omega) _ x.E.length (x.E.flatMap skC) rfl O4.out ⟨w3.heap.size, 0, none⟩ 1 1 (skC (t, n, h0 + 1)) rfl rfl HN.out ?_ (by unfold maxLen; omega) (by omega) hBB ?_
          · intro u hu
            simp [skC] at hu
            rcases hu with rfl | rfl | rfl <;> rfl
          intro L' w5 ho5 hg5 _
          obtain ⟨Al, cl, hLl, _, _⟩ := own_slice ho5
          subst hLl
          obtain ⟨P6, M6⟩ := Z2.out.2.2.1.pushed HM3.out.1 HM3.out.2.1 HB34.out ho5 hg5
          have A5 : w5.heap[w.heap.size]? = some (.cells #[Value.int IntKind.i64 t, Value.int IntKind.i64 n, Value.int IntKind.i64 ((h0 : Int) + 1)] 81 (0, 0)) := by
            rw [hg5.block _ (Nat.lt_of_lt_of_le l9 HB34.out.size) fun e => by injection e with e; change w.heap.size = g at e; omega, HB34.out.block _ l9]
            exact HA3.out.1
          have C5 : w5.heap[W]? = some (wkO x (.slice (some ⟨g, 0, none⟩) x.E.length c) V R) := by
            have c4 : w4.heap[W]? = some (wkO x (.slice (some ⟨g, 0, none⟩) x.E.length c) V R) := by rw [HB34.out.block _ l8]; exact HA3.out.2.1
            rw [hg5.block _ (lt_someV c4) fun e => ?_]
            · exact c4
            · obtain ⟨_, cs', h'⟩ := own_tag O4.out e.symm
              exact absurd (one_tag c4 h') (by decide)
          have S6 := M6.kept S _ 67 _ Z2.out.2.2.2 (by unfold tsQ; decide)
          have HP6 := Lib.hid (And.intro P6 (And.intro M6 S6))
          have HA5 := Lib.hid A5
          obtain ⟨r0, _, _, _, _, _, _, _, _, _, rf, _, _⟩ := wk_cells C5
          have HH5 : Hid (w5.cell? ⟨w.heap.size, 0, none⟩ = some (.int .i64 t) ∧ w5.cell? ⟨w.heap.size, 1, none⟩ = some (.int .i64 n) ∧ w5.cell? ⟨w.heap.size, 2, none⟩ = some (.int .i64 ((h0 : Int) + 1))) := Lib.hid ⟨cell_at A5 rfl, cell_at A5 rfl, cell_at A5 rfl⟩
          have HH6 : Hid ((w5.setCell ⟨W, 0, none⟩ (.slice Al (x.E.length + 1) cl)).cell? ⟨w.heap.size, 0, none⟩ = some (.int .i64 t) ∧ (w5.setCell ⟨W, 0, none⟩ (.slice Al (x.E.length + 1) cl)).cell? ⟨w.heap.size, 1, none⟩ = some (.int .i64 n) ∧ (w5.setCell ⟨W, 0, none⟩ (.slice Al (x.E.length + 1) cl)).cell? ⟨w.heap.size, 2, none⟩ = some (.int .i64 ((h0 : Int) + 1))) := by
            have A6 : (w5.setCell ⟨W, 0, none⟩ (.slice Al (x.E.length + 1) cl)).heap[w.heap.size]? = _ := ((One.set w5 W 0 (.slice Al (x.E.length + 1) cl)).far _ (by omega)).trans A5
            exact Lib.hid ⟨cell_at A6 rfl, cell_at A6 rfl, cell_at A6 rfl⟩
          clear P6 M6 S6 A5 C5 ho5 hg5
          refine hK.out _ _ HH5.out (fun hHeld => ?_)
          clear hK K
          simp only [Act.put, List.setIfInBounds_toArray, List.set_cons_zero, List.set_cons_succ]
          refine wpAnyH_take (i := 8) (v := ?v8_8) rfl (by kernel_rfl) (by kernel_rfl) (by kernel_rfl) (fun _ _ _ h => h) (Or.inl ⟨by kernel_rfl, ?y8_8⟩) (by assumption) ?r8_8
          case y8_8 => (intro w hSw; (try dsimp only at hSw); go_simp; (try with_reducible rfl))
          try simp only [Act.put, List.getElem_toArray, List.getElem_cons_zero, List.getElem_cons_succ, List.setIfInBounds_toArray, List.set_cons_zero, List.set_cons_succ]
          refine wpAnyH_take (i := 9) (v := ?v9_9) rfl (by kernel_rfl) (by kernel_rfl) (by kernel_rfl) (fun _ _ _ h => h) (Or.inl ⟨by kernel_rfl, ?y9_9⟩) (by assumption) ?r9_9
          case y9_9 => (intro w hSw; (try dsimp only at hSw); go_simp; (try with_reducible rfl))
          try simp only [Act.put, List.getElem_toArray, List.getElem_cons_zero, List.getElem_cons_succ, List.setIfInBounds_toArray, List.set_cons_zero, List.set_cons_succ]
          refine wpAnyH_ready (rs := [10]) (by kernel_rfl) (by simp) ?_
          refine AllReadyH.cons rfl (fun K hK => ?_) AllReadyH.nil
          go_simp
          refine hK.out _ _ HH6.out (fun hHeld => ?_)
          clear hK K r0 rf
          refine wpAnyH_done (by kernel_rfl) ?_ _
          obtain ⟨s5, s6⟩ := st_cell HP6.out.2.2
          generalize w5.setCell ⟨W, 0, none⟩ (.slice Al (x.E.length + 1) cl) = w6 at *
          go_wp2
          go_ret
          refine .inr ⟨HG.out, rfl, x.E.length, x.E ++ [(t, n, h0 + 1)], (.slice Al (x.E.length + 1) cl), .inr ⟨rfl, rfl, HK.out.2⟩, HP6.out.1.other (One.set w6 S 0 _).grown HP6.out.2.2 (by decide), st_set HP6.out.2.2 _, ?_⟩
          have hBw := HS.out.1.lt.2
          refine ((Mt.of Z2.out.1 hBw).trans (HP6.out.2.1.more fun T hT => hT.elim .inl fun e => .inr (.inl e))).trans (Mt.grown (One.set w6 S 0 _).grown (Nat.le_trans hBw (Nat.le_trans Z2.out.1.size HP6.out.2.1.low.size)) fun q hq => ?_)
          injection hq with hq
          subst hq
          exact ⟨hB, fun cs T z hc => by
            rw [← one_tag HP6.out.2.2 hc]
            exact .inr (.inr rfl)⟩
      · have hq := run_lookE (w := w1.drew) (HZ.out.2.2.1.map.of rfl) (t, n, h0 + 1)
        rw [g1, hk] at hq
        have hq2 : (Instr.lookup 54 (.map (some x.m)) (.agg #[.int .i64 t, .int .i64 n, .int .i64 ((h0 : Int) + 1)]) true).run Tryd.prog w1.drew = .ok (.tuple #[.int .i64 ((1 + i : Nat) : Int), .bool true]) w1.drew := hq
        generalize hki : 1 + i = k at *
        have HK := Lib.hid (And.intro g2 hki)
        clear g1 g2 hki hq hk HL
        go_wp2_with fail
        go_region
        go_wp2
        go_ret
        refine .inr ⟨HG.out, rfl, k, x.E, _, .inl ⟨rfl, by have := HK.out.2; omega, ?_⟩, HZ.out.2.2.1.other (one_drew (One.set w1 S 0 _)) HZ.out.2.2.2 (by decide), ?_, ?_⟩
        · obtain ⟨g3, g4⟩ := HK.out
          rw [List.getElem?_tail] at g3
          rw [← g4, Nat.add_comm]
          exact g3
        · rw [heap_drew]
          exact st_set HZ.out.2.2.2 k
        · refine (Mt.of HZ.out.1 HS.out.1.lt.2).trans (Mt.grown (one_drew (One.set w1 S 0 _)) (by have := HS.out.1.lt.2; omega) fun q hq => ?_)
          injection hq with hq
          subst hq
          exact ⟨hB, fun cs T z hc => by
            rw [← one_tag HZ.out.2.2.2 hc]
            exact .inr (.inr rfl)⟩
end Go.Proofs.YtilmidjkjgeoeaaDoor
