/- What the program's reader makes of operands with a sign between them. Conditions: the reader and its tokens lie in memory; the operand's reader reads as said. -/
import Derived.Test.YtoicncfpoklanaaDoorPb
import Derived.Deep.RegionHeld3
namespace Go.Proofs.YtoicncfpoklanaaDoor
open Go.RowKit
set_option maxRecDepth 100000
set_option linter.unusedSimpArgs false

/-- the function of that number is entered at a call -/
def EntC (fn : Nat) : Prop := ∀ (args : Array Value) (w : World), (callFunc fn args).run Tryd.prog w = .ok (.enter fn args) w
/-- an expression that lies in blocks from lo on -/
def QE (lo : Nat) (w : World) (e : Ex) (x : Value) : Prop := ExV w (Rng lo w.heap.size) e x
/-- an expression that lies in blocks of D, or in new ones from lo on -/
def QD (D : Nat → Prop) (lo : Nat) (w : World) (e : Ex) (x : Value) : Prop := ExV w (fun k => D k ∨ Rng lo w.heap.size k) e x
/-- a function value that reads as p does, in whatever world comes of w0 -/
def IsPar (R : Nat) (S : Src) (fn : Nat) (caps : Array Value) (p : Par Ex) (w0 : World) : Prop :=
  EntC fn ∧ ∀ w ts, Moves R w0 w → At w R S ts → Calls Tryd.prog fn caps w (Got R S (QE w.heap.size) w (p ts))
theorem IsPar.later {R : Nat} {S : Src} {fn : Nat} {caps : Array Value} {p : Par Ex} {w0 w1 : World} (h : IsPar R S fn caps p w0) (hm : Moves R w0 w1) : IsPar R S fn caps p w1 :=
  ⟨h.1, fun w ts h1 h2 => h.2 w ts (hm.trans h1) h2⟩
theorem Got.weak {α : Type} {R : Nat} {S : Src} {Q Q' : World → α → Value → Prop} {w w' : World} {m : Res α} {e : Ending} (h : Got R S Q w m e w') (hq : ∀ v x, Q w' v x → Q' w' v x) : Got R S Q' w m e w' := by
  obtain ⟨hm, ⟨v, r, x, h1, h2, h3, h4⟩ | h⟩ := h
  · exact ⟨hm, .inl ⟨v, r, x, h1, h2, hq v x h3, h4⟩⟩
  · exact ⟨hm, .inr h⟩

/-- what a region that joins two operands reads -/
def JoinS (tb bb : Nat) (t : Tok) (cs : List Value) (w : World) : Prop :=
  w.cell? ⟨tb, 1, none⟩ = some (.string (strN t.text)) ∧ w.cell? ⟨tb, 3, none⟩ = some (.int .i64 t.place) ∧ w.rangeAt bb 0 cs
theorem JoinS.of {tb bb : Nat} {t : Tok} {cs : List Value} {w w' : World} (h : JoinS tb bb t cs w) (h1 : w'.heap[tb]? = w.heap[tb]?) (h2 : w'.heap[bb]? = w.heap[bb]?) : JoinS tb bb t cs w' :=
  ⟨by rw [World.cell?_of_block (a := ⟨tb, 1, none⟩) h1]; exact h.1, by rw [World.cell?_of_block (a := ⟨tb, 3, none⟩) h1]; exact h.2.1, fun j v hv => by rw [World.cell?_of_block (a := ⟨bb, 0 + j, none⟩) h2]; exact h.2.2 j v hv⟩
theorem exV_cells {w : World} {D : Nat → Prop} {e : Ex} {v : Value} (h : ExV w D e v) : ∃ k, v = .agg #[.int .i64 e.op, .int .i64 e.num, .string (strN e.text), k, .int .i64 e.place] ∧ ExsC w D e.kids k ∧ k.oneCell' = true := by
  obtain ⟨k, h1, h2⟩ := h
  refine ⟨k, h1, h2, ?_⟩
  cases h2 with
  | mk l ks V hk hr _ =>
    obtain ⟨A, c, rfl, _⟩ := hr
    rfl

/-- two structs ahead of a call -/
theorem open_two {R : Nat} {S : Src} {ts : List Tok} {w : World} (ha : At w R S ts) (a b : Obj) :
    At ((w.alloc a).alloc b) R S ts ∧ Below w.heap.size w ((w.alloc a).alloc b) ∧ ((w.alloc a).alloc b).heap[w.heap.size]? = some a ∧ ((w.alloc a).alloc b).heap[w.heap.size + 1]? = some b ∧ ((w.alloc a).alloc b).heap.size = w.heap.size + 2 := by
  have hb := below_two (Below.refl w.heap.size w) (Nat.le_refl _) a b
  refine ⟨ha.below hb (Nat.le_refl _), hb, ?_, ?_, by simp⟩
  · rw [Below.heap_alloc _ _ _ (by simp)]
    exact heap_alloc_new w a
  · have := heap_alloc_new (w.alloc a) b
    simpa using this
theorem Moves.block' {R : Nat} {w w' : World} (h : Moves R w w') {k : Nat} (h1 : k < w.heap.size) (h2 : k ≠ R) : w'.heap[k]? = w.heap[k]? := h.block k h1 (by intro e; injection e; omega)
def exZ : Obj := .cells #[.int .i64 0, .int .i64 0, .string ⟨#[]⟩, .slice none 0 0, .int .i64 0] 39
abbrev exO (x : Ex) (k : Value) : Obj := .cells #[.int .i64 x.op, .int .i64 x.num, .string (strN x.text), k, .int .i64 x.place] 39
abbrev tokO (t : Tok) : Obj := .cells #[.int .i64 t.kind, .string (strN t.text), .int .i64 t.num, .int .i64 t.place] 77

/-- a block of a zero expression: its cells, which may be written -/
theorem exZ_cells {w : World} {b : Nat} (h : w.heap[b]? = some (.cells #[.int .i64 0, .int .i64 0, .string ⟨#[]⟩, .slice none 0 0, .int .i64 0] 39)) :
    (w.cell? ⟨b, 0, none⟩ = some (.int .i64 0) ∧ w.cell? ⟨b, 1, none⟩ = some (.int .i64 0) ∧ w.cell? ⟨b, 2, none⟩ = some (.string ⟨#[]⟩) ∧ w.cell? ⟨b, 3, none⟩ = some (.slice none 0 0) ∧ w.cell? ⟨b, 4, none⟩ = some (.int .i64 0)) ∧
    (w.frozen? ⟨b, 0, none⟩ = false ∧ w.frozen? ⟨b, 1, none⟩ = false ∧ w.frozen? ⟨b, 2, none⟩ = false ∧ w.frozen? ⟨b, 3, none⟩ = false ∧ w.frozen? ⟨b, 4, none⟩ = false) := by
  have c : ∀ j, w.cell? ⟨b, j, none⟩ = #[Value.int .i64 0, .int .i64 0, .string ⟨#[]⟩, .slice none 0 0, .int .i64 0][j]? := fun j => cell_of_row _ _ _ _ _ _ h
  have f : ∀ j, w.frozen? ⟨b, j, none⟩ = false := fun j => by simp [World.frozen?, h]
  exact ⟨⟨c 0, c 1, c 2, c 3, c 4⟩, f 0, f 1, f 2, f 3, f 4⟩
/-- two expressions in a block of their own -/
theorem exs_two {w' : World} {D : Nat → Prop} {b : Nat} {x y : Ex} {k k2 : Value} (hb : w'.heap[b]? = some (.cells #[.int .i64 x.op, .int .i64 x.num, .string (strN x.text), k, .int .i64 x.place, .int .i64 y.op, .int .i64 y.num, .string (strN y.text), k2, .int .i64 y.place] 39)) (hlo : D b)
    (hx : ExsC w' D x.kids k) (hy : ExsC w' D y.kids k2) : ExsC w' D [x, y] (.slice (some ⟨b, 0, none⟩) 2 2) := by
  refine .mk [x, y] [k, k2] _ rfl ⟨_, _, rfl, Nat.le_refl _, by unfold maxLen; simp, (fun e => by cases e), fun j u hu => ⟨_, rfl, hlo, ?_⟩⟩ fun i e q he hq => ?_
  · rw [Addr.add_lit, cell_of_row _ _ _ _ _ _ hb, Nat.zero_add]
    simpa [exsC, exC] using hu
  · rcases i with _ | _ | i
    · simp at he hq
      subst he hq
      exact hx
    · simp at he hq
      subst he hq
      exact hy
    · simp at he

set_option maxHeartbeats 1600000 in
theorem joined (R : Nat) (S : Src) (ts : List Tok) (fn : Nat) (caps : Array Value) (p : Par Ex) (D : Nat → Prop) (x : Ex) (lv : Value) (w : World) (ha : At w R S ts) (hp : IsPar R S fn caps p w) (hD : ∀ k, D k → k < w.heap.size ∧ k ≠ R) (hx : ExV w D x lv) :
    Calls Tryd.prog 84 #[.pointer (some ⟨R, 0, none⟩), lv, .func (.func fn) #[] caps] w (Got R S (QD D w.heap.size) w (joinedP S.z p x ts)) := by
  obtain ⟨k, rfl, hk, hk1⟩ := exV_cells hx
  clear hx
  have he := hp.1
  unfold EntC at he
  have HP := Lib.hid hp.2
  have HX := Lib.hid hk
  have HO := Lib.hid (open_two ha (exO x k) (.cells #[.int .i64 0, .int .i64 0, .string ⟨#[]⟩, .slice none 0 0, .int .i64 0] 39))
  have hRw := ha.lt
  have K := Lib.hid (take R S ts 4 _ HO.out.1 (by omega))
  have HW : Hid (joinedP S.z p x ts = (takeT S.z 4 ts).bind fun t r => (p r).bind fun y r' => .ok (.mk 6 0 t.text [x, y] t.place) r') := rfl
  clear ha hp hk
  generalize joinedP S.z p x ts = m at *
  generalize takeT S.z 4 ts = m1 at *
  go_enter Tryd.func84, Tryd.ntmps84
  go_wp2_with fail
  generalize ((w.alloc (exO x k)).alloc (.cells #[.int .i64 0, .int .i64 0, .string ⟨#[]⟩, .slice none 0 0, .int .i64 0] 39)) = w0 at *
  refine K.out.mono ?_
  rintro e w1 ⟨hm, ⟨t, r, xv, rfl, rfl, hq, ha1⟩ | ⟨c, q, rfl, rfl⟩⟩
  · have s0 := HO.out.2.2.2.2
    have s1 := hm.size
    have n0 : w1.heap[w.heap.size]? = some (exO x k) := by rw [hm.block' (by omega) (by omega)]; exact HO.out.2.2.1
    have n1 : w1.heap[w.heap.size + 1]? = some (.cells #[.int .i64 0, .int .i64 0, .string ⟨#[]⟩, .slice none 0 0, .int .i64 0] 39) := by rw [hm.block' (by omega) (by omega)]; exact HO.out.2.2.2.1
    have HM := Lib.hid ((Moves.of_below (R := R) HO.out.2.1 (Nat.le_refl _)).trans hm)
    have bt := below_alloc w1 (tokO t)
    have N0 : Hid ((w1.alloc (tokO t)).heap[w.heap.size]? = some (exO x k)) := by show _ = _; rw [bt.block _ (by omega)]; exact n0
    have N1 : Hid ((w1.alloc (tokO t)).heap[w.heap.size + 1]? = some (.cells #[.int .i64 0, .int .i64 0, .string ⟨#[]⟩, .slice none 0 0, .int .i64 0] 39)) := by show _ = _; rw [bt.block _ (by omega)]; exact n1
    have N2 := Lib.hid (heap_alloc_new w1 (tokO t))
    have A2 := Lib.hid (ha1.below bt (Nat.le_refl _))
    have M2 := Lib.hid (HM.out.below bt (Nat.le_refl _))
    have S2 : (w1.alloc (tokO t)).heap.size = w1.heap.size + 1 := by simp
    subst hq
    clear hm ha1 K n0 n1 bt HO
    simp only [tokV, tokC]
    go_wp2_with fail
    generalize w1.alloc (tokO t) = wt at *
    have HS : Hid (JoinS w1.heap.size w.heap.size t [.int .i64 x.op, .int .i64 x.num, .string (strN x.text), k, .int .i64 x.place] wt) :=
      ⟨by rw [cell_of_row _ _ _ _ _ _ N2.out]; rfl, by rw [cell_of_row _ _ _ _ _ _ N2.out]; rfl, range_of (cs := [_, _, _, _, _]) N0.out⟩
    have HSd : Hid (∀ w', JoinS w1.heap.size w.heap.size t [.int .i64 x.op, .int .i64 x.num, .string (strN x.text), k, .int .i64 x.place] w' → w'.cell? ⟨w1.heap.size, 1, none⟩ = some (.string (strN t.text)) ∧ w'.cell? ⟨w1.heap.size, 3, none⟩ = some (.int .i64 t.place)) := fun w' h => ⟨h.1, h.2.1⟩
    refine wp_region_held_drew (S := JoinS w1.heap.size w.heap.size t [.int .i64 x.op, .int .i64 x.num, .string (strN x.text), k, .int .i64 x.place]) (by kernel_rfl) (HS.out.of rfl rfl) (fun hHeld => ?_)
    refine wpAnyH_take (i := 0) (v := ?v0) rfl (by kernel_rfl) (by kernel_rfl) (by kernel_rfl) (fun _ _ _ h => h) (Or.inl ⟨by kernel_rfl, ?y0⟩) (by assumption) ?r0
    case y0 => (intro w hSw; (try dsimp only at hSw); go_simp; (try with_reducible rfl))
    try simp only [Act.put, List.getElem_toArray, List.getElem_cons_zero, List.getElem_cons_succ, List.setIfInBounds_toArray, List.set_cons_zero, List.set_cons_succ]
    refine wpAnyH_take (i := 1) (v := ?v1) rfl (by kernel_rfl) (by kernel_rfl) (by kernel_rfl) (fun _ _ _ h => h) (Or.inl ⟨by kernel_rfl, ?y1⟩) (by assumption) ?r1
    case y1 => (intro w hSw; obtain ⟨q1, q2⟩ := HSd.out _ hSw; (try dsimp only at hSw); go_simp; (try with_reducible rfl))
    try simp only [Act.put, List.getElem_toArray, List.getElem_cons_zero, List.getElem_cons_succ, List.setIfInBounds_toArray, List.set_cons_zero, List.set_cons_succ]
    refine wpAnyH_take (i := 2) (v := .agg #[.int .i64 x.op, .int .i64 x.num, .string (strN x.text), k, .int .i64 x.place]) rfl (by kernel_rfl) (by kernel_rfl) (by kernel_rfl) (fun _ _ _ h => h) (yieldsIf_load_mid (by kernel_rfl) 39 (.tmp 4) rfl w.heap.size 0 rfl _ _ (fun w' h => h.2.2) Tryd.underlying39 rfl info39s) (by assumption) ?r2
    try simp only [Act.put, List.getElem_toArray, List.getElem_cons_zero, List.getElem_cons_succ, List.setIfInBounds_toArray, List.set_cons_zero, List.set_cons_succ]
    refine wpAnyH_take (i := 3) (v := ?v3) rfl (by kernel_rfl) (by kernel_rfl) (by kernel_rfl) (fun _ _ _ h => h) (Or.inl ⟨by kernel_rfl, ?y3⟩) (by assumption) ?r3
    case y3 => (intro w hSw; (try dsimp only at hSw); go_simp; (try with_reducible rfl))
    try simp only [Act.put, List.getElem_toArray, List.getElem_cons_zero, List.getElem_cons_succ, List.setIfInBounds_toArray, List.set_cons_zero, List.set_cons_succ]
    refine wpAnyH_take (i := 6) (v := ?v6) rfl (by kernel_rfl) (by kernel_rfl) (by kernel_rfl) (fun _ _ _ h => h) (Or.inl ⟨by kernel_rfl, ?y6⟩) (by assumption) ?r6
    case y6 => (intro w hSw; (try dsimp only at hSw); go_simp; (try with_reducible rfl))
    try simp only [Act.put, List.getElem_toArray, List.getElem_cons_zero, List.getElem_cons_succ, List.setIfInBounds_toArray, List.set_cons_zero, List.set_cons_succ]
    refine wpAnyH_take (i := 7) (v := ?v7) rfl (by kernel_rfl) (by kernel_rfl) (by kernel_rfl) (fun _ _ _ h => h) (Or.inl ⟨by kernel_rfl, ?y7⟩) (by assumption) ?r7
    case y7 => (intro w hSw; obtain ⟨q1, q2⟩ := HSd.out _ hSw; (try dsimp only at hSw); go_simp; (try with_reducible rfl))
    try simp only [Act.put, List.getElem_toArray, List.getElem_cons_zero, List.getElem_cons_succ, List.setIfInBounds_toArray, List.set_cons_zero, List.set_cons_succ]
    have K2 := Lib.hid (HP.out wt.drew r (M2.out.trans ⟨rfl, rfl, rfl, Nat.le_refl _, fun _ _ _ => rfl⟩) (A2.out.below ((Below.refl wt.heap.size wt).drew) (Nat.le_refl _)))
    refine wpAnyH_ready (rs := [4]) (by kernel_rfl) (by simp) ?_
    refine AllReadyH.cons rfl (fun K hK => ?_) AllReadyH.nil
    go_simp
    refine K2.out.mono ?_
    clear K2
    rintro e w2 ⟨hm2, ⟨y, r', yv, hr', rfl, hqy, ha2⟩ | ⟨c, q, hr', rfl⟩⟩
    · obtain ⟨k2, rfl, hk2, hk21⟩ := exV_cells hqy
      clear hqy
      have s2 := hm2.size
      have s2' : wt.heap.size ≤ w2.heap.size := s2
      have HM2 := Lib.hid (M2.out.trans (Moves.trans (b := wt.drew) ⟨rfl, rfl, rfl, Nat.le_refl _, fun _ _ _ => rfl⟩ hm2))
      have kb : ∀ b, b < wt.heap.size → b ≠ R → w2.heap[b]? = wt.heap[b]? := fun b h1 h2 => hm2.block' (w := wt.drew) h1 h2
      have hS2 : JoinS w1.heap.size w.heap.size t [.int .i64 x.op, .int .i64 x.num, .string (strN x.text), k, .int .i64 x.place] w2 := HS.out.of (kb _ (by omega) (by omega)) (kb _ (by omega) (by omega))
      have HN := Lib.hid ((kb (w.heap.size + 1) (by omega) (by omega)).trans N1.out)
      have HA2 := Lib.hid ha2
      have HK2 := Lib.hid hk2
      have HR := Lib.hid hr'
      clear hm2 ha2 hk2 hr' kb hHeld
      refine hK.out _ _ hS2 (fun hHeld => ?_)
      clear hK K
      refine wpAnyH_ready (rs := [5]) (by kernel_rfl) (by simp) ?_
      refine AllReadyH.cons rfl (fun K hK => ?_) AllReadyH.nil
      go_simp
      have bz := below_alloc w2 (.cells #[.int .i64 x.op, .int .i64 x.num, .string (strN x.text), k, .int .i64 x.place, .int .i64 y.op, .int .i64 y.num, .string (strN y.text), k2, .int .i64 y.place] 39)
      have HZ := Lib.hid (heap_alloc_new w2 (.cells #[.int .i64 x.op, .int .i64 x.num, .string (strN x.text), k, .int .i64 x.place, .int .i64 y.op, .int .i64 y.num, .string (strN y.text), k2, .int .i64 y.place] 39))
      have hS3 := hS2.of (bz.block w1.heap.size (by omega)) (bz.block w.heap.size (by omega))
      have HN3 := Lib.hid ((bz.block (w.heap.size + 1) (by omega)).trans HN.out)
      have A3 := Lib.hid (HA2.out.below bz (Nat.le_refl _))
      have M3 := Lib.hid (HM2.out.below bz (Nat.le_refl _))
      have sz : (w2.alloc (.cells #[.int .i64 x.op, .int .i64 x.num, .string (strN x.text), k, .int .i64 x.place, .int .i64 y.op, .int .i64 y.num, .string (strN y.text), k2, .int .i64 y.place] 39)).heap.size = w2.heap.size + 1 := by simp
      have X3 := Lib.hid ((HX.out.same (HM2.out.same hD)).same (fun q h1 => bz.block q (Nat.lt_of_lt_of_le (hD q h1).1 HM2.out.size)))
      have Y3 := Lib.hid (HK2.out.same (fun q h1 => bz.block q h1.2))
      generalize (w2.alloc (.cells #[.int .i64 x.op, .int .i64 x.num, .string (strN x.text), k, .int .i64 x.place, .int .i64 y.op, .int .i64 y.num, .string (strN y.text), k2, .int .i64 y.place] 39)) = wz at *
      refine hK.out _ _ hS3 (fun hHeld => ?_)
      clear hK K hS2 bz
      refine wpAnyH_take (i := 8) (v := ?v8) rfl (by kernel_rfl) (by kernel_rfl) (by kernel_rfl) (fun _ _ _ h => h) (Or.inl ⟨by kernel_rfl, ?y8⟩) (by assumption) ?r8
      case y8 => (intro w hSw; (try dsimp only at hSw); go_simp; (try with_reducible rfl))
      try simp only [Act.put, List.getElem_toArray, List.getElem_cons_zero, List.getElem_cons_succ, List.setIfInBounds_toArray, List.set_cons_zero, List.set_cons_succ]
      obtain ⟨⟨z0, z1, z2, z3, z4⟩, f0, f1, f2, f3, f4⟩ := exZ_cells HN3.out
      refine wpAnyH_ready (rs := [9]) (by kernel_rfl) (by simp) ?_
      refine AllReadyH.cons rfl (fun K hK => ?_) AllReadyH.nil
      go_simp
      have hb := below_cells (w.heap.size + 1) 0 [.int .i64 6, .int .i64 0, .string (strN t.text), .slice (some ⟨w2.heap.size, 0, none⟩) 2 2, .int .i64 t.place] wz
      have hrg := World.rangeAt_setCells_same wz (w.heap.size + 1) 0 [.int .i64 6, .int .i64 0, .string (strN t.text), .slice (some ⟨w2.heap.size, 0, none⟩) 2 2, .int .i64 t.place] (there_cells (cs := [.int .i64 0, .int .i64 0, .string ⟨#[]⟩, .slice none 0 0, .int .i64 0]) HN3.out rfl)
      change K _ (wz.setCells (w.heap.size + 1) 0 [.int .i64 6, .int .i64 0, .string (strN t.text), .slice (some ⟨w2.heap.size, 0, none⟩) 2 2, .int .i64 t.place])
      generalize wz.setCells (w.heap.size + 1) 0 [.int .i64 6, .int .i64 0, .string (strN t.text), .slice (some ⟨w2.heap.size, 0, none⟩) 2 2, .int .i64 t.place] = w4 at *
      refine hK.out _ _ (hHeld.of (hb.2.1 _ (by omega)) (hb.2.1 _ (by omega))) (fun _ => ?_)
      clear hK K hHeld hS3 z0 z1 z2 z3 z4 f0 f1 f2 f3 f4
      refine wpAnyH_done (by kernel_rfl) ?_ _
      have HB := Lib.hid hb
      clear hb
      go_wp2
      refine bodyPost_ret (ret_cell (cs := [_, _, _, _, _]) Tryd.results84 Tryd.underlying39 rfl info39s _ _ (w.heap.size + 1) rfl hrg) rfl ?_
      have sx : Same (Rng wt.drew.heap.size w2.heap.size) wz w4 := fun q h1 => HB.out.2.1 q (by have : wt.heap.size ≤ q := h1.1; omega)
      have sy : Same D wz w4 := fun q h1 => HB.out.2.1 q (by have := (hD q h1).1; omega)
      have s4 := HB.out.2.2
      refine .ok (M3.out.low HB.out.1 (by omega)) (by rw [HW.out]; simp only [Res.bind_ok]; rw [HR.out]; rfl) ⟨.slice (some ⟨w2.heap.size, 0, none⟩) 2 2, rfl, ?_⟩ (A3.out.other (by omega) HB.out.2.1)
      show ExsC w4 _ [x, y] _
      refine exs_two (by rw [HB.out.2.1 _ (by omega)]; exact HZ.out) (.inr ⟨by omega, by omega⟩) ((X3.out.same sy).more fun k h => .inl h) ((Y3.out.same sx).more fun k h => .inr ⟨?_, ?_⟩)
      · have : wt.heap.size ≤ k := h.1
        omega
      · have : k < w2.heap.size := h.2
        omega
    · have HQ := Lib.hid (M2.out.trans (Moves.trans (b := wt.drew) ⟨rfl, rfl, rfl, Nat.le_refl _, fun _ _ _ => rfl⟩ hm2))
      exact ⟨rfl, .bad HQ.out (by rw [HW.out]; simp only [Res.bind_ok]; rw [hr']; rfl)⟩
  · have HQ := Lib.hid ((Moves.of_below (R := R) HO.out.2.1 (Nat.le_refl _)).trans hm)
    clear hm K HO
    go_wp2
    exact ⟨rfl, .bad HQ.out HW.out⟩
end Go.Proofs.YtoicncfpoklanaaDoor
