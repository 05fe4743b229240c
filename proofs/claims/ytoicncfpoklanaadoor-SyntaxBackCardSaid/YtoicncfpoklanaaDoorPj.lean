/- What the program's reader makes of a name, or a call. Conditions: the reader and its tokens lie in memory; the reader of expressions reads as said. -/
import Derived.Test.YtoicncfpoklanaaDoorPi
namespace Go.Proofs.YtoicncfpoklanaaDoor
open Go.RowKit
set_option maxRecDepth 100000
set_option linter.unusedSimpArgs false

theorem ent103 : EntC 103 := by intro args w; simp
/-- three blocks ahead of a call -/
theorem open_three {R : Nat} {S : Src} {ts : List Tok} {w : World} (ha : At w R S ts) (a b d : Obj) :
    At (((w.alloc a).alloc b).alloc d) R S ts ∧ Below w.heap.size w (((w.alloc a).alloc b).alloc d) ∧ (((w.alloc a).alloc b).alloc d).heap[w.heap.size]? = some a ∧ (((w.alloc a).alloc b).alloc d).heap[w.heap.size + 1]? = some b ∧ (((w.alloc a).alloc b).alloc d).heap[w.heap.size + 2]? = some d ∧ (((w.alloc a).alloc b).alloc d).heap.size = w.heap.size + 3 := by
  obtain ⟨h1, h2, h3, h4, h5⟩ := open_two ha a b
  have hb := below_alloc ((w.alloc a).alloc b) d
  refine ⟨h1.below hb (Nat.le_refl _), h2.trans (hb.mono h2.size), ?_, ?_, ?_, by simp⟩
  · rw [hb.block _ (by omega)]; exact h3
  · rw [hb.block _ (by omega)]; exact h4
  · have := heap_alloc_new ((w.alloc a).alloc b) d
    rw [h5] at this
    exact this
/-- the variables of the reader and of the depth -/
def Caps (R d br bd : Nat) (w : World) : Prop := w.cell? ⟨br, 0, none⟩ = some (.pointer (some ⟨R, 0, none⟩)) ∧ w.cell? ⟨bd, 0, none⟩ = some (.int .i64 d)
theorem Caps.of {R d br bd : Nat} {w w' : World} (h : Caps R d br bd w) (h1 : w'.heap[br]? = w.heap[br]?) (h2 : w'.heap[bd]? = w.heap[bd]?) : Caps R d br bd w' :=
  ⟨by rw [World.cell?_of_block (a := ⟨br, 0, none⟩) h1]; exact h.1, by rw [World.cell?_of_block (a := ⟨bd, 0, none⟩) h2]; exact h.2⟩
theorem namedP_eq (z : Nat) (e : Par Ex) (ts : List Tok) : namedP z e ts = (takeT z 1 ts).bind fun t r => if seesT z [[40]] r then (listP z e r).bind fun l r' => .ok (.mk 5 0 t.text l t.place) r' else .ok (.mk 4 0 t.text [] t.place) r := rfl

set_option maxHeartbeats 1600000 in
theorem named (R : Nat) (S : Src) (d : Nat) (e : Par Ex) (he : ExprOk R S d e) (hT : Takes e) (hsm : S.all.length ≤ 4096) (ts : List Tok) (w : World) (ha : At w R S ts) :
    Calls Tryd.prog 99 #[.pointer (some ⟨R, 0, none⟩), .int .i64 d] w (Got R S (QE w.heap.size) w (namedP S.z e ts)) := by
  have hmf : ∀ (fn : Fn) (first cap : Array Value) (w : World), (Instr.makeFunc fn first cap).run Tryd.prog w = .ok (.func fn first cap) w := fun _ _ _ _ => rfl
  have hR := ha.lt
  have HE := Lib.hid he
  have HT := Lib.hid hT
  have HO := Lib.hid (open_three ha (.cells #[.pointer (some ⟨R, 0, none⟩)] 57) (.cells #[.int .i64 d] 3) (.cells #[.int .i64 0, .int .i64 0, .string ⟨#[]⟩, .slice none 0 0, .int .i64 0] 39))
  have K := Lib.hid (take R S ts 1 _ HO.out.1 (by omega))
  have HW := Lib.hid (namedP_eq S.z e ts)
  clear ha he hT
  generalize namedP S.z e ts = m at *
  generalize takeT S.z 1 ts = m1 at *
  go_enter Tryd.func99, Tryd.ntmps99
  go_wp2_with fail
  generalize ((w.alloc (.cells #[.pointer (some ⟨R, 0, none⟩)] 57)).alloc (.cells #[.int .i64 d] 3)).alloc (.cells #[.int .i64 0, .int .i64 0, .string ⟨#[]⟩, .slice none 0 0, .int .i64 0] 39) = w0 at *
  refine K.out.mono ?_
  clear K
  rintro e' w1 ⟨hm, ⟨t, r, xv, rfl, rfl, hq, ha1⟩ | ⟨c, q, rfl, rfl⟩⟩
  · obtain ⟨_, hb0, n0, n1, n2, s0⟩ := HO.out
    have s1 := hm.size
    have HM1 := Lib.hid ((Moves.of_below (R := R) hb0 (Nat.le_refl _)).trans hm)
    have bt := below_alloc w1 (tokO t)
    have bk : ∀ b, b < w0.heap.size → b ≠ R → (w1.alloc (tokO t)).heap[b]? = w0.heap[b]? := fun b h1 h2 => (bt.block b (by omega)).trans (hm.block' h1 h2)
    have C2 : Hid (Caps R d w.heap.size (w.heap.size + 1) (w1.alloc (tokO t))) := by
      constructor
      · rw [cell_of_row _ _ _ _ _ _ ((bk _ (by omega) (by omega)).trans n0)]; rfl
      · rw [cell_of_row _ _ _ _ _ _ ((bk _ (by omega) (by omega)).trans n1)]; rfl
    have Z2 := Lib.hid (there_cells (cs := [_, _, _, _, _]) (n := 5) ((bk _ (by omega) (by omega)).trans n2) rfl)
    have A2 := Lib.hid (ha1.below bt (Nat.le_refl _))
    have M2 := Lib.hid (HM1.out.below bt (Nat.le_refl _))
    have T2 := heap_alloc_new w1 (tokO t)
    have t1 : (w1.alloc (tokO t)).cell? ⟨w1.heap.size, 1, none⟩ = some (.string (strN t.text)) := by rw [cell_of_row _ _ _ _ _ _ T2]; rfl
    have t3 : (w1.alloc (tokO t)).cell? ⟨w1.heap.size, 3, none⟩ = some (.int .i64 t.place) := by rw [cell_of_row _ _ _ _ _ _ T2]; rfl
    have s2 : (w1.alloc (tokO t)).heap.size = w1.heap.size + 1 := by simp
    subst hq
    clear hm ha1 hb0 n0 n1 n2 bt bk T2 HO
    simp only [tokV, tokC]
    have be3 := below_alloc (w1.alloc (tokO t)) (.cells #[.int .i64 4, .int .i64 0, .string (strN t.text), .slice none 0 0, .int .i64 t.place] 39)
    have C3 := C2.out.of (be3.block _ (by omega)) (be3.block _ (by omega))
    have A3 := A2.out.below be3 (Nat.le_refl _)
    have E3 := Lib.hid (heap_alloc_new (w1.alloc (tokO t)) (.cells #[.int .i64 4, .int .i64 0, .string (strN t.text), .slice none 0 0, .int .i64 t.place] 39))
    have Z3 := Lib.hid (there_of_block Z2.out (be3.block _ (by omega)))
    have M3 := Lib.hid (Moves.of_below (R := R) be3 (Nat.le_refl _))
    have s3 : ((w1.alloc (tokO t)).alloc (.cells #[.int .i64 4, .int .i64 0, .string (strN t.text), .slice none 0 0, .int .i64 t.place] 39)).heap.size = w1.heap.size + 2 := by simp
    have K := Lib.hid (sees_own R S r [[40]] _ #[.string ⟨#[40]⟩] (by rw [show (⟨#[40]⟩ : ByteArray) = strN [40] by kernel_rfl]; rfl) 1 rfl (by omega) A3 (by simp; unfold Byn; decide))
    rw [s3] at K
    have HC3 := Lib.hid C3
    obtain ⟨c1, c2⟩ := C3
    clear A3 be3
    cases hs : seesT S.z [[40]] r with
    | false =>
      rw [hs] at K
      have HW2 : Hid (m = .ok (.mk 4 0 t.text [] t.place) r) := by show _ = _; rw [HW.out]; simp only [Res.bind_ok]; rw [hs]; rfl
      clear hs
      go_wp2_with fail
      generalize w1.alloc (tokO t) = w2 at *
      generalize w2.alloc (.cells #[.int .i64 4, .int .i64 0, .string (strN t.text), .slice none 0 0, .int .i64 t.place] 39) = w3 at *
      refine K.out.mono ?_
      clear K
      rintro e' w4 ⟨rfl, hb4, ha4⟩
      have E4 := (hb4.block _ (by omega)).trans E3.out
      obtain ⟨l0, l1, l2, l3, l4⟩ := (ExAt.of_block (x := .mk 4 0 t.text [] t.place) (k := .slice none 0 0) E4).cells
      have z4 := Lib.hid (there_of_block Z3.out (hb4.block _ (by omega)))
      have H4 : Hid (Moves R w w4 ∧ At w4 R S r) := ⟨(M2.out.trans M3.out).low hb4 (by omega), ha4⟩
      rw [s2] at l0 l1 l2 l3 l4
      simp only [Ex.op, Ex.num, Ex.text, Ex.place] at l0 l1 l2 l3 l4
      have l0' : w4.cell? ⟨w1.heap.size + 1, 0, none⟩ = some (.int .i64 4) := l0
      have l1' : w4.cell? ⟨w1.heap.size + 1, 1, none⟩ = some (.int .i64 0) := l1
      clear hb4 ha4 E4 l0 l1
      go_wp2_with (refine wpList_storeN info39s rfl (.tmp 4) (.tmp 21) rfl rfl (w.heap.size + 1 + 1) rfl [_, _, _, _, _] rfl rfl z4.out (by simp [Value.oneCell']) ?_; intro w5 g1 g2 g3 g4 g5)
      refine bodyPost_ret (ret_cell (cs := [_, _, _, _, _]) Tryd.results99 Tryd.underlying39 rfl info39s _ _ (w.heap.size + 1 + 1) rfl g1) rfl ?_
      exact .ok (H4.out.1.low g3 (by omega)) HW2.out ⟨.slice none 0 0, rfl, ExsC.nothing _ _⟩ (H4.out.2.other (by omega) g4)
    | true =>
      rw [hs] at K
      have HW2 : Hid (m = (listP S.z e r).bind fun l r' => .ok (.mk 5 0 t.text l t.place) r') := by show _ = _; rw [HW.out]; simp only [Res.bind_ok]; rw [hs]; rfl
      clear hs
      go_wp2_with fail
      generalize w1.alloc (tokO t) = w2 at *
      generalize w2.alloc (.cells #[.int .i64 4, .int .i64 0, .string (strN t.text), .slice none 0 0, .int .i64 t.place] 39) = w3 at *
      refine K.out.mono ?_
      clear K
      rintro e' w4 ⟨rfl, hb4, ha4⟩
      have E4 := (hb4.block _ (by omega)).trans E3.out
      rw [s2] at E4
      have hz4 := there_of_block Z3.out (hb4.block _ (by omega))
      have C4 := HC3.out.of (hb4.block _ (by omega)) (hb4.block _ (by omega))
      have s4 := hb4.size
      have M4 := M3.out.low hb4 (by omega)
      have l0 : w4.cell? ⟨w1.heap.size + 1, 0, none⟩ = some (.int .i64 4) := by rw [cell_of_row _ _ _ _ _ _ E4]; rfl
      have f0 : w4.frozen? ⟨w1.heap.size + 1, 0, none⟩ = false := by simp [World.frozen?, E4]
      have bs := (Below.refl (w1.heap.size + 1) w4).setCell (p := ⟨w1.heap.size + 1, 0, none⟩) (Nat.le_refl _) (.int .i64 5)
      have ss : (w4.setCell ⟨w1.heap.size + 1, 0, none⟩ (.int .i64 5)).heap.size = w4.heap.size := by simp [World.setCell]
      have E5 : (w4.setCell ⟨w1.heap.size + 1, 0, none⟩ (.int .i64 5)).heap[w1.heap.size + 1]? = some (.cells #[.int .i64 5, .int .i64 0, .string (strN t.text), .slice none 0 0, .int .i64 t.place] 39) := by
        simp only [World.setCell, Array.getElem?_modify, if_true]
        rw [E4]
        rfl
      have C5 := C4.of (bs.block _ (by omega)) (bs.block _ (by omega))
      have A5 := ha4.under bs (by omega)
      have M5 := M4.low bs (by omega)
      have Z5 := Lib.hid (there_of_block hz4 (bs.block _ (by omega)))
      have hcok : (⟨R, S, w2, w1.heap.size + 1, w.heap.size, w.heap.size + 1, w4.heap.size, t, d⟩ : Nm).Ok := ⟨by show R < w2.heap.size; omega, by show w2.heap.size ≤ w1.heap.size + 1; omega, by show w.heap.size ≠ R; omega, by show w.heap.size + 1 ≠ R; omega, by show w1.heap.size + 1 < w4.heap.size; omega, by show w.heap.size < w4.heap.size; omega, by show w.heap.size + 1 < w4.heap.size; omega, by show w1.heap.size + 1 ≠ w.heap.size; omega, by show w1.heap.size + 1 ≠ w.heap.size + 1; omega, hsm⟩
      have hI0 : (⟨R, S, w2, w1.heap.size + 1, w.heap.size, w.heap.size + 1, w4.heap.size, t, d⟩ : Nm).I [] (w4.setCell ⟨w1.heap.size + 1, 0, none⟩ (.int .i64 5)) :=
        ⟨by rw [ss]; exact Nat.le_refl _, M5, C5, .slice none 0 0, ⟨range_of (cs := [_, _, _, _, _]) E5, there_cells (cs := [_, _, _, _, _]) E5 rfl⟩, OwnE.nothing _ _⟩
      have hpart : PartOk R S 103 #[.pointer (some ⟨w1.heap.size + 1, 0, none⟩), .pointer (some ⟨w.heap.size, 0, none⟩), .pointer (some ⟨w.heap.size + 1, 0, none⟩)] e (⟨R, S, w2, w1.heap.size + 1, w.heap.size, w.heap.size + 1, w4.heap.size, t, d⟩ : Nm).I (Moves R w2) :=
        ⟨ent103, HT.out, fun l a b h hm => h.moves hcok hm, fun l a h => h.2.1, fun l a q h1 h2 h3 => named1 _ hcok e HE.out l q a h1 h2 h3⟩
      have K := Lib.hid (list R S 103 _ e _ _ hpart r _ A5 hI0)
      have HZ5 := Lib.hid ss
      obtain ⟨k1, k2⟩ := C5
      clear hb4 ha4 E4 hz4 C4 bs A5 M5 E5 hI0 hpart M4
      go_wp2_with fail
      refine K.out.mono ?_
      clear K
      rintro e' w6 (⟨l, r6, hr, rfl, hI, ha6⟩ | ⟨c, q, hr, rfl, hj⟩)
      · obtain ⟨hlo, hmv', _, U, hE, hOwn⟩ := hI
        have hmv : Moves R w2 w6 := hmv'
        have hU : ∃ A cp, U = .slice A l.length cp := by
          obtain ⟨ks, _, ho, _⟩ := hOwn
          exact own_shape ho
        obtain ⟨A, cp, rfl⟩ := hU
        have l0 : w6.cell? ⟨w1.heap.size + 1, 0, none⟩ = some (.int .i64 5) := hE.1 0 _ rfl
        have l1 : w6.cell? ⟨w1.heap.size + 1, 1, none⟩ = some (.int .i64 0) := hE.1 1 _ rfl
        have l2 : w6.cell? ⟨w1.heap.size + 1, 2, none⟩ = some (.string (strN t.text)) := hE.1 2 _ rfl
        have l3 : w6.cell? ⟨w1.heap.size + 1, 3, none⟩ = some (.slice A l.length cp) := hE.1 3 _ rfl
        have l4 : w6.cell? ⟨w1.heap.size + 1, 4, none⟩ = some (.int .i64 t.place) := hE.1 4 _ rfl
        have z6 := Lib.hid (there_of_block Z2.out (Moves.block' (R := R) hmv (by omega) (by omega)))
        have H6 : Hid (Moves R w w6 ∧ At w6 R S r6 ∧ ExsC w6 (Rng w4.heap.size w6.heap.size) l (.slice A l.length cp) ∧ m = .ok (.mk 5 0 t.text l t.place) r6) := ⟨M2.out.trans hmv, ha6, hOwn.exs, by rw [HW2.out, hr]; rfl⟩
        clear hlo hmv hmv' hE hOwn ha6 hr k1 k2
        go_wp2_with (refine wpList_storeN info39s rfl (.tmp 4) (.tmp 21) rfl rfl (w.heap.size + 1 + 1) rfl [_, _, _, _, _] rfl rfl z6.out (by simp [Value.oneCell']) ?_; intro w7 g1 g2 g3 g4 g5)
        refine bodyPost_ret (ret_cell (cs := [_, _, _, _, _]) Tryd.results99 Tryd.underlying39 rfl info39s _ _ (w.heap.size + 1 + 1) rfl g1) rfl ?_
        refine .ok (H6.out.1.low g3 (by omega)) H6.out.2.2.2 ⟨.slice A l.length cp, rfl, ?_⟩ (H6.out.2.1.other (by omega) g4)
        exact (H6.out.2.2.1.same fun q h => g4 q (by have : w4.heap.size ≤ q := h.1; omega)).more fun q h => ⟨by have : w4.heap.size ≤ q := h.1; omega, by rw [g5]; exact h.2⟩
      · have HQ := Lib.hid (M2.out.trans hj)
        clear hj
        go_wp2
        exact ⟨rfl, .bad HQ.out (by rw [HW2.out, hr]; rfl)⟩
  · have HQ := Lib.hid ((Moves.of_below (R := R) HO.out.2.1 (Nat.le_refl _)).trans hm)
    clear hm HO
    go_wp2
    exact ⟨rfl, .bad HQ.out HW.out⟩
end Go.Proofs.YtoicncfpoklanaaDoor
