/- What the program's reader makes of a statement. Conditions: the reader and its tokens lie in memory; the readers of expressions and of blocks read as said. -/
import Derived.Test.YtoicncfpoklanaaDoorPs
namespace Go.Proofs.YtoicncfpoklanaaDoor
open Go.RowKit
set_option maxRecDepth 100000
set_option linter.unusedSimpArgs false

theorem stmtP_eq (z : Nat) (e : Par Ex) (b : Par (List St)) (ts : List Tok) (t : Tok) (ht : peekT z ts = t) : stmtP z e b ts = (if seesT z [[105, 102]] ts then choiceP z e b ts.tail else if seesT z [[102, 111, 114]] ts then loopP z e b ts.tail
   else (simpleP z e ts).bind fun s r => (wantT z [59] r).bind fun _ r' => .ok s r').bind fun s r => .ok (s.at t.place) r := by
  subst ht
  rfl
theorem StK.at {w : World} {D : Nat → Prop} {s : St} {k : Three} (h : StK w D s k) (p : Nat) : StK w D (s.at p) k := ⟨h.e, h.b, h.f⟩
/-- the statement's own variable, and the result's -/
structure Sm (R : Nat) (S : Src) (w : World) (bs : Nat) (ts : List Tok) (cur : World) : Prop where
  r0 : Res0 R S 6 w ts cur
  th : cur.there bs 0 6
  wb : w.heap.size < bs
  bc : bs < cur.heap.size
  hR : R < w.heap.size
theorem Sm.moves {R : Nat} {S : Src} {w : World} {bs : Nat} {ts ts' : List Tok} {cur cur' : World} (h : Sm R S w bs ts cur) (hm : Moves R cur cur') (ha : At cur' R S ts') : Sm R S w bs ts' cur' :=
  ⟨h.r0.moves hm ha h.hR, there_of_block h.th (hm.block' h.bc (by have := h.hR; have := h.wb; omega)), h.wb, Nat.lt_of_lt_of_le h.bc hm.size, h.hR⟩
theorem Sm.stored {R : Nat} {S : Src} {w : World} {bs : Nat} {ts : List Tok} {cur cur' : World} (h : Sm R S w bs ts cur) (ho : ∀ k, k ≠ bs → cur'.heap[k]? = cur.heap[k]?) (hb : Below bs cur cur') (hs : cur'.heap.size = cur.heap.size) (ht : cur'.there bs 0 6) : Sm R S w bs ts cur' :=
  ⟨⟨h.r0.mv.low hb (Nat.le_of_lt h.wb), there_of_block h.r0.th (ho _ (by have := h.wb; omega)), by rw [hs]; exact h.r0.lt, h.r0.at'.other (by have := h.hR; have := h.wb; omega) ho⟩, ht, h.wb, by rw [hs]; exact h.bc, h.hR⟩

set_option maxHeartbeats 6400000 in
theorem statement (R : Nat) (S : Src) (d : Nat) (e : Par Ex) (he : ExprOk R S d e) (b : Par (List St)) (hb : BlockOk R S d b) (ts : List Tok) (w : World) (ha : At w R S ts) :
    Calls Tryd.prog 55 #[.pointer (some ⟨R, 0, none⟩), .int .i64 d] w (Got R S (QSt w.heap.size) w (stmtP S.z e b ts)) := by
  have hR := ha.lt
  have HB := Lib.hid hb
  have HE := Lib.hid he
  have H0 := Lib.hid (Res0.start ha [.int .i64 0, .string ⟨#[]⟩, .slice none 0 0, .slice none 0 0, .slice none 0 0, .int .i64 0] 43)
  obtain ⟨t, ht⟩ : ∃ t, peekT S.z ts = t := ⟨_, rfl⟩
  have HW := Lib.hid (stmtP_eq S.z e b ts t ht)
  have K := Lib.hid (peek R S ts _ H0.out.at')
  rw [ht] at K
  simp only [tokV, tokC] at K
  have hf := fun w' => (run_field77 w' t).1
  clear ha he hb ht
  generalize stmtP S.z e b ts = m at *
  go_enter Tryd.func55, Tryd.ntmps55
  go_wp2_with fail
  generalize w.alloc (.cells #[.int .i64 0, .string ⟨#[]⟩, .slice none 0 0, .slice none 0 0, .slice none 0 0, .int .i64 0] 43) = w0 at *
  refine K.out.mono ?_
  clear K
  rintro e' w1 ⟨rfl, hb1⟩
  have H1 := H0.out.below hb1 (Nat.le_refl _)
  have bt := below_alloc w1 (.cells #[.int .i64 0, .string ⟨#[]⟩, .slice none 0 0, .slice none 0 0, .slice none 0 0, .int .i64 0] 43)
  have M2 : Hid (Sm R S w w1.heap.size ts (w1.alloc (.cells #[.int .i64 0, .string ⟨#[]⟩, .slice none 0 0, .slice none 0 0, .slice none 0 0, .int .i64 0] 43))) := ⟨H1.below bt (Nat.le_refl _), there_cells (cs := [.int .i64 0, .string ⟨#[]⟩, .slice none 0 0, .slice none 0 0, .slice none 0 0, .int .i64 0]) (heap_alloc_new w1 _) rfl, H1.lt, by simp, hR⟩
  have K := Lib.hid (accept R S ts [105, 102] ⟨#[105, 102]⟩ _ M2.out.r0.at' (by kernel_rfl) (by unfold Byn; decide))
  clear hb1 H1 bt
  cases hs0 : seesT S.z [[105, 102]] ts with
  | true =>
    rw [hs0] at K HW
    clear hs0
    go_wp2_with fail
    generalize w1.alloc (.cells #[.int .i64 0, .string ⟨#[]⟩, .slice none 0 0, .slice none 0 0, .slice none 0 0, .int .i64 0] 43) = w2 at *
    refine K.out.mono ?_
    clear K
    rintro e' x0 ⟨rfl, hm, ha1⟩
    have ha1' : At x0 R S ts.tail := ha1
    have N0 := Lib.hid (M2.out.moves hm ha1')
    clear hm ha1 ha1'
    have K := Lib.hid (choice R S d e HE.out b HB.out ts.tail _ N0.out.r0.at')
    go_wp2_with fail
    refine K.out.mono ?_
    clear K
    rintro e' w4 ⟨hm, ⟨s, r4, sv, hr, rfl, hq, ha4⟩ | ⟨c, q, hr, rfl⟩⟩
    · obtain ⟨⟨ke, kb, kf⟩, rfl, he4, hb4, hf4⟩ := hq
      obtain ⟨A1, c1, h1⟩ := exsC_slice he4
      obtain ⟨A2, c2, h2⟩ := stsC_slice hb4
      obtain ⟨A3, c3, h3⟩ := stsC_slice hf4
      dsimp only at h1 h2 h3
      subst h1 h2 h3
      have M4 := Lib.hid (N0.out.moves hm ha4)
      have KS : Hid (StK w4 (Rng (x0.heap.size) w4.heap.size) s ⟨.slice A1 s.exprs.length c1, .slice A2 s.body.length c2, .slice A3 s.els.length c3⟩) := ⟨he4, hb4, hf4⟩
      have hbc := N0.out.bc
      have HWe : Hid (m = .ok (s.at t.place) r4) := by show _ = _; rw [HW.out]; simp only [if_true, if_false, Bool.false_eq_true, hr]; rfl
      clear hm hr ha4 he4 hb4 hf4
      simp only [stC]
      go_upto_region 9 with (refine wpList_storeN info43s rfl (.tmp 6) (.tmp 20) rfl rfl w1.heap.size rfl [_, _, _, _, _, _] rfl rfl M4.out.th (by simp [Value.oneCell']) ?_; intro w5 g1 g2 g3 g4 g5)
      have M5 := M4.out.stored g4 g3 g5 g2
      have V5 : VarAt w5 w1.heap.size _ := ⟨g1, g2⟩
      have HX5 := Lib.hid (KS.out.same fun q h => g4 q (by have := h.1; omega))
      obtain ⟨cc5, cf5⟩ := V5.cell 5 _ rfl
      have V6 := V5.set 5 (.int .i64 t.place)
      obtain ⟨q0, _⟩ := V6.cell 0 _ rfl
      obtain ⟨q1, _⟩ := V6.cell 1 _ rfl
      obtain ⟨q2, _⟩ := V6.cell 2 _ rfl
      obtain ⟨q3, _⟩ := V6.cell 3 _ rfl
      obtain ⟨q4, _⟩ := V6.cell 4 _ rfl
      obtain ⟨q5, _⟩ := V6.cell 5 _ rfl
      have M6 := Lib.hid (M5.stored (fun k hk => set_other (i := 5) (u := .int .i64 t.place) k hk) set_below set_size V6.2)
      have X6 := Lib.hid (HX5.out.same fun q h => set_other (b := w1.heap.size) (i := 5) (u := .int .i64 t.place) q (by have := h.1; omega))
      have hwb := M2.out.wb
      clear V6 V5 M5 g1 g2 g3 g4
      go_wp2_with (refine wpList_storeN info43s rfl (.tmp 4) (.tmp 29) rfl rfl w.heap.size rfl [_, _, _, _, _, _] rfl rfl M6.out.r0.th (by simp [Value.oneCell']) ?_; intro w8 k1 k2 k3 k4 k5)
      refine bodyPost_ret (ret_cell (cs := [_, _, _, _, _, _]) Tryd.results55 Tryd.underlying43 rfl info43s _ _ w.heap.size rfl k1) rfl ?_
      refine .ok (M6.out.r0.mv.low k3 (Nat.le_refl _)) HWe.out (StK.v (s := s.at t.place) (k := ⟨.slice A1 s.exprs.length c1, .slice A2 s.body.length c2, .slice A3 s.els.length c3⟩) ?_) (M6.out.r0.at'.other hR k4)
      exact ((StK.same (s := s) X6.out fun q h => k4 q (by have := h.1; omega)).more (D' := Rng w.heap.size w8.heap.size) fun q h => ⟨by have := h.1; omega, by rw [k5, set_size]; have := h.2; omega⟩).at t.place
    · have HQ := Lib.hid (N0.out.r0.mv.trans hm)
      have HR : Hid (m = .bad c q) := by show _ = _; rw [HW.out]; simp only [if_true, if_false, Bool.false_eq_true, hr]; rfl
      clear hm hr
      go_wp2
      exact ⟨rfl, .bad HQ.out HR.out⟩
  | false =>
    rw [hs0] at K HW
    clear hs0
    go_wp2_with fail
    generalize w1.alloc (.cells #[.int .i64 0, .string ⟨#[]⟩, .slice none 0 0, .slice none 0 0, .slice none 0 0, .int .i64 0] 43) = w2 at *
    refine K.out.mono ?_
    clear K
    rintro e' x0 ⟨rfl, hm, ha1⟩
    have ha1' : At x0 R S ts := ha1
    have N0 := Lib.hid (M2.out.moves hm ha1')
    clear hm ha1 ha1'
    have K := Lib.hid (accept R S ts [102, 111, 114] ⟨#[102, 111, 114]⟩ _ N0.out.r0.at' (by kernel_rfl) (by unfold Byn; decide))
    cases hs1 : seesT S.z [[102, 111, 114]] ts with
    | true =>
      rw [hs1] at K HW
      clear hs1
      go_wp2_with fail
      refine K.out.mono ?_
      clear K
      rintro e' x1 ⟨rfl, hm, ha1⟩
      have ha1' : At x1 R S ts.tail := ha1
      have N1 := Lib.hid (N0.out.moves hm ha1')
      clear hm ha1 ha1'
      have K := Lib.hid (loop R S d e HE.out b HB.out ts.tail _ N1.out.r0.at')
      go_wp2_with fail
      refine K.out.mono ?_
      clear K
      rintro e' w4 ⟨hm, ⟨s, r4, sv, hr, rfl, hq, ha4⟩ | ⟨c, q, hr, rfl⟩⟩
      · obtain ⟨⟨ke, kb, kf⟩, rfl, he4, hb4, hf4⟩ := hq
        obtain ⟨A1, c1, h1⟩ := exsC_slice he4
        obtain ⟨A2, c2, h2⟩ := stsC_slice hb4
        obtain ⟨A3, c3, h3⟩ := stsC_slice hf4
        dsimp only at h1 h2 h3
        subst h1 h2 h3
        have M4 := Lib.hid (N1.out.moves hm ha4)
        have KS : Hid (StK w4 (Rng (x1.heap.size) w4.heap.size) s ⟨.slice A1 s.exprs.length c1, .slice A2 s.body.length c2, .slice A3 s.els.length c3⟩) := ⟨he4, hb4, hf4⟩
        have hbc := N1.out.bc
        have HWe : Hid (m = .ok (s.at t.place) r4) := by show _ = _; rw [HW.out]; simp only [if_true, if_false, Bool.false_eq_true, hr]; rfl
        clear hm hr ha4 he4 hb4 hf4
        simp only [stC]
        go_upto_region 9 with (refine wpList_storeN info43s rfl (.tmp 6) (.tmp 26) rfl rfl w1.heap.size rfl [_, _, _, _, _, _] rfl rfl M4.out.th (by simp [Value.oneCell']) ?_; intro w5 g1 g2 g3 g4 g5)
        have M5 := M4.out.stored g4 g3 g5 g2
        have V5 : VarAt w5 w1.heap.size _ := ⟨g1, g2⟩
        have HX5 := Lib.hid (KS.out.same fun q h => g4 q (by have := h.1; omega))
        obtain ⟨cc5, cf5⟩ := V5.cell 5 _ rfl
        have V6 := V5.set 5 (.int .i64 t.place)
        obtain ⟨q0, _⟩ := V6.cell 0 _ rfl
        obtain ⟨q1, _⟩ := V6.cell 1 _ rfl
        obtain ⟨q2, _⟩ := V6.cell 2 _ rfl
        obtain ⟨q3, _⟩ := V6.cell 3 _ rfl
        obtain ⟨q4, _⟩ := V6.cell 4 _ rfl
        obtain ⟨q5, _⟩ := V6.cell 5 _ rfl
        have M6 := Lib.hid (M5.stored (fun k hk => set_other (i := 5) (u := .int .i64 t.place) k hk) set_below set_size V6.2)
        have X6 := Lib.hid (HX5.out.same fun q h => set_other (b := w1.heap.size) (i := 5) (u := .int .i64 t.place) q (by have := h.1; omega))
        have hwb := M2.out.wb
        clear V6 V5 M5 g1 g2 g3 g4
        go_wp2_with (refine wpList_storeN info43s rfl (.tmp 4) (.tmp 29) rfl rfl w.heap.size rfl [_, _, _, _, _, _] rfl rfl M6.out.r0.th (by simp [Value.oneCell']) ?_; intro w8 k1 k2 k3 k4 k5)
        refine bodyPost_ret (ret_cell (cs := [_, _, _, _, _, _]) Tryd.results55 Tryd.underlying43 rfl info43s _ _ w.heap.size rfl k1) rfl ?_
        refine .ok (M6.out.r0.mv.low k3 (Nat.le_refl _)) HWe.out (StK.v (s := s.at t.place) (k := ⟨.slice A1 s.exprs.length c1, .slice A2 s.body.length c2, .slice A3 s.els.length c3⟩) ?_) (M6.out.r0.at'.other hR k4)
        exact ((StK.same (s := s) X6.out fun q h => k4 q (by have := h.1; omega)).more (D' := Rng w.heap.size w8.heap.size) fun q h => ⟨by have := h.1; omega, by rw [k5, set_size]; have := h.2; omega⟩).at t.place
      · have HQ := Lib.hid (N1.out.r0.mv.trans hm)
        have HR : Hid (m = .bad c q) := by show _ = _; rw [HW.out]; simp only [if_true, if_false, Bool.false_eq_true, hr]; rfl
        clear hm hr
        go_wp2
        exact ⟨rfl, .bad HQ.out HR.out⟩
    | false =>
      rw [hs1] at K HW
      clear hs1
      go_wp2_with fail
      refine K.out.mono ?_
      clear K
      rintro e' x1 ⟨rfl, hm, ha1⟩
      have ha1' : At x1 R S ts := ha1
      have N1 := Lib.hid (N0.out.moves hm ha1')
      clear hm ha1 ha1'
      have K := Lib.hid (simple R S d e HE.out ts _ N1.out.r0.at')
      go_wp2_with fail
      refine K.out.mono ?_
      clear K
      rintro e' w4 ⟨hm, ⟨s, r4, sv, hr, rfl, hq, ha4⟩ | ⟨c, q, hr, rfl⟩⟩
      · obtain ⟨⟨ke, kb, kf⟩, rfl, he4, hb4, hf4⟩ := hq
        obtain ⟨A1, c1, h1⟩ := exsC_slice he4
        obtain ⟨A2, c2, h2⟩ := stsC_slice hb4
        obtain ⟨A3, c3, h3⟩ := stsC_slice hf4
        dsimp only at h1 h2 h3
        subst h1 h2 h3
        have M4 := Lib.hid (N1.out.moves hm ha4)
        have KS : Hid (StK w4 (Rng (x1.heap.size) w4.heap.size) s ⟨.slice A1 s.exprs.length c1, .slice A2 s.body.length c2, .slice A3 s.els.length c3⟩) := ⟨he4, hb4, hf4⟩
        have hbc := N1.out.bc
        have HWs : Hid (m = ((wantT S.z [59] r4).bind fun _ r' => Res.ok s r').bind fun s r => .ok (s.at t.place) r) := by show _ = _; rw [HW.out]; simp only [if_false, Bool.false_eq_true, hr]; rfl
        clear hm hr ha4 he4 hb4 hf4
        simp only [stC]
        go_upto_region 4 with (refine wpList_storeN info43s rfl (.tmp 6) (.tmp 12) rfl rfl w1.heap.size rfl [_, _, _, _, _, _] rfl rfl M4.out.th (by simp [Value.oneCell']) ?_; intro w5 g1 g2 g3 g4 g5)
        have M5 := Lib.hid (M4.out.stored g4 g3 g5 g2)
        have V5 : Hid (VarAt w5 w1.heap.size _) := ⟨g1, g2⟩
        have HX5 := Lib.hid (KS.out.same fun q h => g4 q (by have := h.1; omega))
        have K := Lib.hid (want R S r4 [59] ⟨#[59]⟩ _ M5.out.r0.at' (by kernel_rfl) (by unfold Byn; decide))
        clear g1 g2 g3 g4
        go_wp2_with fail
        refine K.out.mono ?_
        clear K
        rintro e' w9 ⟨hm, ⟨u, r9, xu, hr, rfl, hq, ha9⟩ | ⟨c, q, hr, rfl⟩⟩
        · rw [show xu = .tuple #[] from hq]
          have M9 := M5.out.moves hm ha9
          have s9 := hm.size
          have V9 := V5.out.of (hm.block' (k := w1.heap.size) M5.out.bc (by have := M5.out.hR; have := M5.out.wb; omega))
          have HX9 := Lib.hid (HX5.out.same (hm.same fun q h => ⟨by have := h.2; omega, by have := h.1; have := M5.out.hR; have := M5.out.wb; omega⟩))
          have HWe : Hid (m = .ok (s.at t.place) r9) := by show _ = _; rw [HWs.out, hr]; rfl
          obtain ⟨cc5, cf5⟩ := V9.cell 5 _ rfl
          have V6 := V9.set 5 (.int .i64 t.place)
          obtain ⟨q0, _⟩ := V6.cell 0 _ rfl
          obtain ⟨q1, _⟩ := V6.cell 1 _ rfl
          obtain ⟨q2, _⟩ := V6.cell 2 _ rfl
          obtain ⟨q3, _⟩ := V6.cell 3 _ rfl
          obtain ⟨q4, _⟩ := V6.cell 4 _ rfl
          obtain ⟨q5, _⟩ := V6.cell 5 _ rfl
          have M6 := Lib.hid (M9.stored (fun k hk => set_other (i := 5) (u := .int .i64 t.place) k hk) set_below set_size V6.2)
          have X6 := Lib.hid (HX9.out.same fun q h => set_other (b := w1.heap.size) (i := 5) (u := .int .i64 t.place) q (by have := h.1; omega))
          have hwb := M2.out.wb
          clear V6 V9 M9 hm hr hq ha9
          go_wp2_with (refine wpList_storeN info43s rfl (.tmp 4) (.tmp 29) rfl rfl w.heap.size rfl [_, _, _, _, _, _] rfl rfl M6.out.r0.th (by simp [Value.oneCell']) ?_; intro w8 k1 k2 k3 k4 k5)
          refine bodyPost_ret (ret_cell (cs := [_, _, _, _, _, _]) Tryd.results55 Tryd.underlying43 rfl info43s _ _ w.heap.size rfl k1) rfl ?_
          refine .ok (M6.out.r0.mv.low k3 (Nat.le_refl _)) HWe.out (StK.v (s := s.at t.place) (k := ⟨.slice A1 s.exprs.length c1, .slice A2 s.body.length c2, .slice A3 s.els.length c3⟩) ?_) (M6.out.r0.at'.other hR k4)
          exact ((StK.same (s := s) X6.out fun q h => k4 q (by have := h.1; omega)).more (D' := Rng w.heap.size w8.heap.size) fun q h => ⟨by have := h.1; omega, by rw [k5, set_size]; have := h.2; omega⟩).at t.place
        · have HQ := Lib.hid (M5.out.r0.mv.trans hm)
          have HR := Lib.hid hr
          clear hm hr
          go_wp2
          exact ⟨rfl, .bad HQ.out (by rw [HWs.out, HR.out]; rfl)⟩
      · have HQ := Lib.hid (N1.out.r0.mv.trans hm)
        have HR : Hid (m = .bad c q) := by show _ = _; rw [HW.out]; simp only [if_true, if_false, Bool.false_eq_true, hr]; rfl
        clear hm hr
        go_wp2
        exact ⟨rfl, .bad HQ.out HR.out⟩
end Go.Proofs.YtoicncfpoklanaaDoor
