/- What the program's reader makes of 'if'. Conditions: the reader and its tokens lie in memory; the readers of expressions and of blocks read as said. -/
import Derived.Test.YtoicncfpoklanaaDoorPq
namespace Go.Proofs.YtoicncfpoklanaaDoor
open Go.RowKit
set_option maxRecDepth 100000
set_option linter.unusedSimpArgs false

def QB (lo : Nat) (w : World) (l : List St) (V : Value) : Prop := StsC w (Rng lo w.heap.size) l V
/-- the reader of blocks of the depth d reads as b does -/
def BlockOk (R : Nat) (S : Src) (d : Nat) (b : Par (List St)) : Prop := ∀ w ts, At w R S ts → Calls Tryd.prog 43 #[.pointer (some ⟨R, 0, none⟩), .int .i64 d] w (Got R S (QB w.heap.size) w (b ts))
theorem stsC_slice {w : World} {D : Nat → Prop} {l : List St} {k : Value} (h : StsC w D l k) : ∃ A c, k = .slice A l.length c := by
  cases h with
  | mk l ks V hk hr _ _ _ =>
    obtain ⟨A, c, e, _⟩ := hr
    exact ⟨A, c, e⟩
theorem choiceP_eq (z : Nat) (e : Par Ex) (b : Par (List St)) (ts : List Tok) : choiceP z e b ts = (singleP e ts).bind fun xs r => (b r).bind fun l q => if seesT z [[101, 108, 115, 101]] q then (b q.tail).bind fun m q' => .ok (.mk 3 [] xs l m 0) q' else .ok (.mk 3 [] xs l [] 0) q := by
  unfold choiceP singleP
  cases e ts <;> rfl
/-- a statement's parts, in blocks of D -/
structure StK (w : World) (D : Nat → Prop) (s : St) (k : Three) : Prop where
  e : ExsC w D s.exprs k.e
  b : StsC w D s.body k.b
  f : StsC w D s.els k.f
theorem StK.same {w w' : World} {D : Nat → Prop} {s : St} {k : Three} (h : StK w D s k) (hs : Same D w w') : StK w' D s k := ⟨h.e.same hs, h.b.same hs, h.f.same hs⟩
theorem StK.more {w : World} {D D' : Nat → Prop} {s : St} {k : Three} (h : StK w D s k) (hs : ∀ q, D q → D' q) : StK w D' s k := ⟨h.e.more hs, h.b.more hs, h.f.more hs⟩
theorem StK.v {w : World} {D : Nat → Prop} {s : St} {k : Three} (h : StK w D s k) : StV w D s (.agg (stC s k.e k.b k.f).toArray) := ⟨k, rfl, h.e, h.b, h.f⟩
/-- all blocks from lo on but two -/
def But (a b B : Nat) : Nat → Prop := fun k => (a < k ∧ k ≠ b) ∧ k < B

set_option maxHeartbeats 3200000 in
theorem choice (R : Nat) (S : Src) (d : Nat) (e : Par Ex) (he : ExprOk R S d e) (b : Par (List St)) (hb : BlockOk R S d b) (ts : List Tok) (w : World) (ha : At w R S ts) :
    Calls Tryd.prog 62 #[.pointer (some ⟨R, 0, none⟩), .int .i64 d] w (Got R S (QSt w.heap.size) w (choiceP S.z e b ts)) := by
  have hR := ha.lt
  have HB := Lib.hid hb
  have H0 := Lib.hid (Res0.start ha [.int .i64 0, .string ⟨#[]⟩, .slice none 0 0, .slice none 0 0, .slice none 0 0, .int .i64 0] 43)
  have HW := Lib.hid (choiceP_eq S.z e b ts)
  have K := Lib.hid (single R S d e he ts _ H0.out.at')
  have s0 : (w.alloc (.cells #[.int .i64 0, .string ⟨#[]⟩, .slice none 0 0, .slice none 0 0, .slice none 0 0, .int .i64 0] 43)).heap.size = w.heap.size + 1 := by simp
  clear ha he hb
  generalize choiceP S.z e b ts = m at *
  go_enter Tryd.func62, Tryd.ntmps62
  go_wp2_with fail
  generalize w.alloc (.cells #[.int .i64 0, .string ⟨#[]⟩, .slice none 0 0, .slice none 0 0, .slice none 0 0, .int .i64 0] 43) = w0 at *
  refine K.out.mono ?_
  clear K
  rintro e' w1 ⟨hm, ⟨xs, r, V, hr, rfl, hq, ha1⟩ | ⟨c, q, hr, rfl⟩⟩
  · obtain ⟨A, cp, rfl⟩ := exsC_slice hq.exs
    have H1 := H0.out.moves hm ha1 hR
    have s1 := hm.size
    have bt := below_alloc w1 (.cells #[.int .i64 3, .string ⟨#[]⟩, .slice A xs.length cp, .slice none 0 0, .slice none 0 0, .int .i64 0] 43)
    have H2 := Lib.hid (H1.below bt (Nat.le_refl _))
    have V2 := Lib.hid (VarAt.block (cs := [.int .i64 3, .string ⟨#[]⟩, .slice A xs.length cp, .slice none 0 0, .slice none 0 0, .int .i64 0]) (heap_alloc_new w1 (.cells #[.int .i64 3, .string ⟨#[]⟩, .slice A xs.length cp, .slice none 0 0, .slice none 0 0, .int .i64 0] 43)))
    have s2 : (w1.alloc (.cells #[.int .i64 3, .string ⟨#[]⟩, .slice A xs.length cp, .slice none 0 0, .slice none 0 0, .int .i64 0] 43)).heap.size = w1.heap.size + 1 := by simp
    have X2 := Lib.hid ((hq.exs.same fun q h => bt.block q h.2).more (D' := But w.heap.size w1.heap.size (w1.heap.size + 1)) fun q h => ⟨⟨by have := h.1; omega, by have := h.2; omega⟩, by have := h.2; omega⟩)
    have HW2 : Hid (m = (b r).bind fun l q => if seesT S.z [[101, 108, 115, 101]] q then (b q.tail).bind fun m q' => .ok (.mk 3 [] xs l m 0) q' else .ok (.mk 3 [] xs l [] 0) q) := by show _ = _; rw [HW.out, hr]; rfl
    have K := Lib.hid (HB.out _ r H2.out.at')
    clear hm hr hq ha1 H1 bt HW
    go_wp2_with fail
    generalize w1.alloc (.cells #[.int .i64 3, .string ⟨#[]⟩, .slice A xs.length cp, .slice none 0 0, .slice none 0 0, .int .i64 0] 43) = w2 at *
    refine K.out.mono ?_
    clear K
    rintro e' w3 ⟨hm, ⟨l, r3, Bv, hr, rfl, hq, ha3⟩ | ⟨c, q, hr, rfl⟩⟩
    · obtain ⟨A3, c3, rfl⟩ := stsC_slice hq
      have H3 := H2.out.moves hm ha3 hR
      have V3 := V2.out.of (hm.block' (k := w1.heap.size) (by omega) (by omega))
      have s3 := hm.size
      obtain ⟨f3, z3⟩ := V3.cell 3 _ rfl
      have V4 := Lib.hid (V3.set 3 (.slice A3 l.length c3))
      have X3 := X2.out.same (hm.same fun q h => ⟨by have := h.2; omega, by have := h.1.1; omega⟩)
      have hoth : ∀ k, k ≠ w1.heap.size → (w3.setCell ⟨w1.heap.size, 3, none⟩ (.slice A3 l.length c3)).heap[k]? = w3.heap[k]? := fun k hk => set_other k hk
      have H4 : Res0 R S _ w r3 (w3.setCell ⟨w1.heap.size, 3, none⟩ (.slice A3 l.length c3)) := ⟨H3.mv.low (set_below (b := w1.heap.size)) (by omega), there_of_block H3.th (hoth _ (by omega)), by rw [set_size]; exact H3.lt, H3.at'.other (g := w1.heap.size) (by have := H2.out.at'.lt; omega) hoth⟩
      have S4 : Hid (StK (w3.setCell ⟨w1.heap.size, 3, none⟩ (.slice A3 l.length c3)) (But w.heap.size w1.heap.size w3.heap.size) (.mk 3 [] xs l [] 0) ⟨.slice A xs.length cp, .slice A3 l.length c3, .slice none 0 0⟩) :=
        ⟨(X3.same fun q h => hoth q h.1.2).more fun q h => ⟨h.1, by have := h.2; omega⟩, (StsC.same hq fun q h => hoth q (by have := h.1; omega)).more fun q h => ⟨⟨by have := h.1; omega, by have := h.1; omega⟩, h.2⟩, StsC.nothing _ _⟩
      have s4 : (w3.setCell ⟨w1.heap.size, 3, none⟩ (.slice A3 l.length c3)).heap.size = w3.heap.size := set_size
      have HH4 := Lib.hid H4
      have HW4 : Hid (m = if seesT S.z [[101, 108, 115, 101]] r3 then (b r3.tail).bind fun m q' => .ok (.mk 3 [] xs l m 0) q' else .ok (.mk 3 [] xs l [] 0) r3) := by show _ = _; rw [HW2.out, hr]; rfl
      have K := Lib.hid (accept R S r3 [101, 108, 115, 101] ⟨#[101, 108, 115, 101]⟩ _ H4.at' (by kernel_rfl) (by unfold Byn; decide))
      clear hm hr hq ha3 H3 H4 V3 X3 hoth HW2
      cases hs : seesT S.z [[101, 108, 115, 101]] r3 with
      | false =>
        rw [hs] at K HW4
        have HW5 : Hid (m = .ok (.mk 3 [] xs l [] 0) r3) := by show _ = _; rw [HW4.out]; rfl
        clear hs HW4
        go_wp2_with fail
        generalize w3.setCell ⟨w1.heap.size, 3, none⟩ (.slice A3 l.length c3) = w4 at *
        refine K.out.mono ?_
        clear K
        rintro e' w5 ⟨rfl, hm, ha5⟩
        have H5 := Lib.hid (HH4.out.moves hm ha5 hR)
        have V5 := V4.out.of (hm.block' (k := w1.heap.size) (by omega) (by have := HH4.out.at'.lt; have := H2.out.at'.lt; omega))
        obtain ⟨q0, _⟩ := V5.cell 0 _ rfl
        obtain ⟨q1, _⟩ := V5.cell 1 _ rfl
        obtain ⟨q2, _⟩ := V5.cell 2 _ rfl
        obtain ⟨q3, _⟩ := V5.cell 3 _ rfl
        obtain ⟨q4, _⟩ := V5.cell 4 _ rfl
        obtain ⟨q5, _⟩ := V5.cell 5 _ rfl
        have S5 := Lib.hid (S4.out.same (hm.same fun q h => ⟨by have := h.2; omega, by have := h.1.1; omega⟩))
        have s5 := hm.size
        clear hm ha5 V5 f3 z3
        go_wp2_with (refine wpList_storeN info43s rfl (.tmp 4) (.tmp 20) rfl rfl w.heap.size rfl [_, _, _, _, _, _] rfl rfl H5.out.th (by simp [Value.oneCell']) ?_; intro w7 g1 g2 g3 g4 g5)
        refine bodyPost_ret (ret_cell (cs := [_, _, _, _, _, _]) Tryd.results62 Tryd.underlying43 rfl info43s _ _ w.heap.size rfl g1) rfl ?_
        exact .ok (H5.out.mv.low g3 (Nat.le_refl _)) HW5.out ((S5.out.same fun q h => g4 q (by have := h.1.1; omega)).more fun q h => ⟨by have := h.1.1; omega, by rw [g5]; have := h.2; omega⟩).v (H5.out.at'.other hR g4)
      | true =>
        rw [hs] at K HW4
        have HW5 : Hid (m = (b r3.tail).bind fun m q' => .ok (.mk 3 [] xs l m 0) q') := by show _ = _; rw [HW4.out]; rfl
        clear hs HW4
        go_wp2_with fail
        generalize w3.setCell ⟨w1.heap.size, 3, none⟩ (.slice A3 l.length c3) = w4 at *
        refine K.out.mono ?_
        clear K
        rintro e' w5 ⟨rfl, hm, ha5⟩
        have ha5' : At w5 R S r3.tail := ha5
        have H5 := Lib.hid (HH4.out.moves hm ha5' hR)
        have hRL : w1.heap.size ≠ R := by have := H2.out.at'.lt; omega
        have V5 := Lib.hid (V4.out.of (hm.block' (k := w1.heap.size) (by omega) hRL))
        have S5 := Lib.hid (S4.out.same (hm.same fun q h => ⟨by have := h.2; omega, by have := h.1.1; omega⟩))
        have s5 := hm.size
        have K := Lib.hid (HB.out _ _ H5.out.at')
        clear hm ha5 ha5' f3 z3
        go_wp2_with fail
        refine K.out.mono ?_
        clear K
        rintro e' w6 ⟨hm, ⟨l6, r6, Bv, hr, rfl, hq, ha6⟩ | ⟨c, q, hr, rfl⟩⟩
        · obtain ⟨A6, c6, rfl⟩ := stsC_slice hq
          have H6 := H5.out.moves hm ha6 hR
          have V6 := V5.out.of (hm.block' (k := w1.heap.size) (by omega) hRL)
          have s6 := hm.size
          obtain ⟨f6, z6⟩ := V6.cell 4 _ rfl
          have V7 := V6.set 4 (.slice A6 l6.length c6)
          obtain ⟨q0, _⟩ := V7.cell 0 _ rfl
          obtain ⟨q1, _⟩ := V7.cell 1 _ rfl
          obtain ⟨q2, _⟩ := V7.cell 2 _ rfl
          obtain ⟨q3, _⟩ := V7.cell 3 _ rfl
          obtain ⟨q4, _⟩ := V7.cell 4 _ rfl
          obtain ⟨q5, _⟩ := V7.cell 5 _ rfl
          have S6 := S5.out.same (hm.same fun q h => ⟨by have := h.2; omega, by have := h.1.1; omega⟩)
          have hoth : ∀ k, k ≠ w1.heap.size → (w6.setCell ⟨w1.heap.size, 4, none⟩ (.slice A6 l6.length c6)).heap[k]? = w6.heap[k]? := fun k hk => set_other k hk
          have H7 : Hid (Res0 R S _ w r6 (w6.setCell ⟨w1.heap.size, 4, none⟩ (.slice A6 l6.length c6))) := ⟨H6.mv.low (set_below (b := w1.heap.size)) (by omega), there_of_block H6.th (hoth _ (by omega)), by rw [set_size]; exact H6.lt, H6.at'.other (g := w1.heap.size) (by have := H2.out.at'.lt; omega) hoth⟩
          have S7 : Hid (StK (w6.setCell ⟨w1.heap.size, 4, none⟩ (.slice A6 l6.length c6)) (But w.heap.size w1.heap.size w6.heap.size) (.mk 3 [] xs l l6 0) ⟨.slice A xs.length cp, .slice A3 l.length c3, .slice A6 l6.length c6⟩) :=
            ⟨(S6.e.same fun q h => hoth q h.1.2).more fun q h => ⟨h.1, by have := h.2; omega⟩, (S6.b.same fun q h => hoth q h.1.2).more fun q h => ⟨h.1, by have := h.2; omega⟩, (StsC.same hq fun q h => hoth q (by have := h.1; omega)).more fun q h => ⟨⟨by have := h.1; omega, by have := h.1; omega⟩, h.2⟩⟩
          have s7 : (w6.setCell ⟨w1.heap.size, 4, none⟩ (.slice A6 l6.length c6)).heap.size = w6.heap.size := set_size
          have HW7 : Hid (m = .ok (.mk 3 [] xs l l6 0) r6) := by show _ = _; rw [HW5.out, hr]; rfl
          clear hm hr hq ha6 H6 V6 V7 S6 hoth HW5
          go_wp2_with (refine wpList_storeN info43s rfl (.tmp 4) (.tmp 20) rfl rfl w.heap.size rfl [_, _, _, _, _, _] rfl rfl H7.out.th (by simp [Value.oneCell']) ?_; intro w8 g1 g2 g3 g4 g5)
          refine bodyPost_ret (ret_cell (cs := [_, _, _, _, _, _]) Tryd.results62 Tryd.underlying43 rfl info43s _ _ w.heap.size rfl g1) rfl ?_
          exact .ok (H7.out.mv.low g3 (Nat.le_refl _)) HW7.out ((S7.out.same fun q h => g4 q (by have := h.1.1; omega)).more fun q h => ⟨by have := h.1.1; omega, by rw [g5]; have := h.2; omega⟩).v (H7.out.at'.other hR g4)
        · have HQ := Lib.hid (H5.out.mv.trans hm)
          have HR := Lib.hid hr
          clear hm hr
          go_wp2
          exact ⟨rfl, .bad HQ.out (by rw [HW5.out, HR.out]; rfl)⟩
    · have HQ := Lib.hid (H2.out.mv.trans hm)
      have HR := Lib.hid hr
      clear hm hr
      go_wp2
      exact ⟨rfl, .bad HQ.out (by rw [HW2.out, HR.out]; rfl)⟩
  · have HQ := Lib.hid (H0.out.mv.trans hm)
    have HR := Lib.hid hr
    clear hm hr
    go_wp2
    exact ⟨rfl, .bad HQ.out (by rw [HW.out, HR.out]; rfl)⟩
end Go.Proofs.YtoicncfpoklanaaDoor
