/- What the program's reader makes of an expression that begins with a word, of a primary one, and of one behind signs. Conditions: the reader and its tokens lie in memory; the readers of expressions of one depth more read as said. -/
import Derived.Test.YtoicncfpoklanaaDoorPj
import Derived.Test.YtoicncfpoklanaaDoorTk
namespace Go.Proofs.YtoicncfpoklanaaDoor
open Go.RowKit
set_option maxRecDepth 100000
set_option linter.unusedSimpArgs false

/-- a function's result lies in a block of its own -/
structure Res0 (R : Nat) (S : Src) (n : Nat) (w : World) (ts : List Tok) (w' : World) : Prop where
  mv : Moves R w w'
  th : w'.there w.heap.size 0 n
  lt : w.heap.size < w'.heap.size
  at' : At w' R S ts
theorem Res0.start {R : Nat} {S : Src} {ts : List Tok} {w : World} (ha : At w R S ts) (cs : List Value) (T : TypeId) : Res0 R S cs.length w ts (w.alloc (.cells cs.toArray T)) :=
  ⟨Moves.alloc R w _, there_cells (cs := cs) (heap_alloc_new w _) rfl, by simp, ha.below (below_alloc w _) (Nat.le_refl _)⟩
theorem Res0.moves {R : Nat} {S : Src} {n : Nat} {ts ts' : List Tok} {w w' w'' : World} (h : Res0 R S n w ts w') (hm : Moves R w' w'') (ha : At w'' R S ts') (hR : R < w.heap.size) : Res0 R S n w ts' w'' :=
  ⟨h.mv.trans hm, there_of_block h.th (hm.block' h.lt (by omega)), Nat.lt_of_lt_of_le h.lt hm.size, ha⟩
theorem Res0.below {R : Nat} {S : Src} {n B : Nat} {ts : List Tok} {w w' w'' : World} (h : Res0 R S n w ts w') (hb : Below B w' w'') (hB : w'.heap.size ≤ B) : Res0 R S n w ts w'' :=
  ⟨h.mv.below hb hB, there_of_block h.th (hb.block _ (Nat.lt_of_lt_of_le h.lt hB)), Nat.lt_of_lt_of_le h.lt hb.size, h.at'.below hb hB⟩

set_option maxHeartbeats 1600000 in
theorem worded (R : Nat) (S : Src) (d : Nat) (e : Par Ex) (he : ExprOk R S d e) (ts : List Tok) (w : World) (ha : At w R S ts) :
    Calls Tryd.prog 100 #[.pointer (some ⟨R, 0, none⟩), .int .i64 d] w (Got R S (QE w.heap.size) w (wordedP S.z e ts)) := by
  have hR := ha.lt
  have HE := Lib.hid he
  have H0 := Lib.hid (Res0.start ha [.int .i64 0, .int .i64 0, .string ⟨#[]⟩, .slice none 0 0, .int .i64 0] 39)
  have HW : Hid (wordedP S.z e ts = if seesT S.z [[116, 114, 117, 101]] ts then .ok (.mk 2 1 [] [] 0) ts.tail
    else if seesT S.z [[102, 97, 108, 115, 101]] ts then .ok (.mk 2 0 [] [] 0) ts.tail
    else if seesT S.z [[103, 101, 116]] ts then (enclosedP S.z e ts.tail).bind fun l r => .ok (.mk 8 0 [] l 0) r
    else if seesT S.z [[104, 97, 115]] ts then (enclosedP S.z e ts.tail).bind fun l r => .ok (.mk 9 0 [] l 0) r
    else (wantT S.z [108, 101, 110] ts).bind fun _ q => (enclosedP S.z e q).bind fun l r => .ok (.mk 10 0 [] l 0) r) := rfl
  clear ha he
  generalize wordedP S.z e ts = m at *
  have K := Lib.hid (accept R S ts [116, 114, 117, 101] ⟨#[116, 114, 117, 101]⟩ _ H0.out.at' (by kernel_rfl) (by unfold Byn; decide))
  go_enter Tryd.func100, Tryd.ntmps100
  cases hs0 : seesT S.z [[116, 114, 117, 101]] ts with
  | true =>
    rw [hs0] at K HW
    clear hs0
    go_wp2_with fail
    generalize w.alloc (.cells #[.int .i64 0, .int .i64 0, .string ⟨#[]⟩, .slice none 0 0, .int .i64 0] 39) = w0 at *
    refine K.out.mono ?_
    clear K
    rintro e' w1 ⟨rfl, hm, ha1⟩
    have ha1' : At w1 R S ts.tail := ha1
    have H1 := Lib.hid (H0.out.moves hm ha1' hR)
    clear hm ha1 ha1'
    go_wp2_with (refine wpList_storeN info39s rfl (.tmp 4) (.tmp 8) rfl rfl w.heap.size rfl [_, _, _, _, _] rfl rfl H1.out.th (by simp [Value.oneCell']) ?_; intro w7 g1 g2 g3 g4 g5)
    refine bodyPost_ret (ret_cell (cs := [_, _, _, _, _]) Tryd.results100 Tryd.underlying39 rfl info39s _ _ w.heap.size rfl g1) rfl ?_
    exact .ok (H1.out.mv.low g3 (Nat.le_refl _)) (v := .mk 2 1 [] [] 0) (by rw [HW.out]; rfl) ⟨.slice none 0 0, rfl, ExsC.nothing _ _⟩ (H1.out.at'.other hR g4)
  | false =>
    rw [hs0] at K HW
    clear hs0
    go_wp2_with fail
    generalize w.alloc (.cells #[.int .i64 0, .int .i64 0, .string ⟨#[]⟩, .slice none 0 0, .int .i64 0] 39) = w0 at *
    refine K.out.mono ?_
    clear K
    rintro e' w1 ⟨rfl, hm, ha1⟩
    have ha1' : At w1 R S ts := ha1
    have H1 := Lib.hid (H0.out.moves hm ha1' hR)
    clear hm ha1 ha1'
    have K := Lib.hid (accept R S ts [102, 97, 108, 115, 101] ⟨#[102, 97, 108, 115, 101]⟩ _ H1.out.at' (by kernel_rfl) (by unfold Byn; decide))
    cases hs1 : seesT S.z [[102, 97, 108, 115, 101]] ts with
    | true =>
      rw [hs1] at K HW
      clear hs1
      go_wp2_with fail
      refine K.out.mono ?_
      clear K
      rintro e' w2 ⟨rfl, hm, ha1⟩
      have ha1' : At w2 R S ts.tail := ha1
      have H2 := Lib.hid (H1.out.moves hm ha1' hR)
      clear hm ha1 ha1'
      go_wp2_with (refine wpList_storeN info39s rfl (.tmp 4) (.tmp 12) rfl rfl w.heap.size rfl [_, _, _, _, _] rfl rfl H2.out.th (by simp [Value.oneCell']) ?_; intro w7 g1 g2 g3 g4 g5)
      refine bodyPost_ret (ret_cell (cs := [_, _, _, _, _]) Tryd.results100 Tryd.underlying39 rfl info39s _ _ w.heap.size rfl g1) rfl ?_
      exact .ok (H2.out.mv.low g3 (Nat.le_refl _)) (v := .mk 2 0 [] [] 0) (by rw [HW.out]; rfl) ⟨.slice none 0 0, rfl, ExsC.nothing _ _⟩ (H2.out.at'.other hR g4)
    | false =>
      rw [hs1] at K HW
      clear hs1
      go_wp2_with fail
      refine K.out.mono ?_
      clear K
      rintro e' w2 ⟨rfl, hm, ha1⟩
      have ha1' : At w2 R S ts := ha1
      have H2 := Lib.hid (H1.out.moves hm ha1' hR)
      clear hm ha1 ha1'
      have K := Lib.hid (accept R S ts [103, 101, 116] ⟨#[103, 101, 116]⟩ _ H2.out.at' (by kernel_rfl) (by unfold Byn; decide))
      cases hs2 : seesT S.z [[103, 101, 116]] ts with
      | true =>
        rw [hs2] at K HW
        clear hs2
        go_wp2_with fail
        refine K.out.mono ?_
        clear K
        rintro e' w3 ⟨rfl, hm, ha1⟩
        have ha1' : At w3 R S ts.tail := ha1
        have H3 := Lib.hid (H2.out.moves hm ha1' hR)
        clear hm ha1 ha1'
        have HW3 : Hid (m = (enclosedP S.z e ts.tail).bind fun l r => .ok (.mk 8 0 [] l 0) r) := by show _ = _; rw [HW.out]; rfl
        have K := Lib.hid (enclosed R S d e HE.out ts.tail _ H3.out.at')
        go_wp2_with fail
        refine K.out.mono ?_
        clear K
        rintro e' wl ⟨hm, ⟨l, rl, V, hr, rfl, hq, hal⟩ | ⟨c, q, hr, rfl⟩⟩
        · obtain ⟨A, cp, rfl⟩ := exsC_slice hq.exs
          have HL := Lib.hid (H3.out.moves hm hal hR)
          have HX := Lib.hid hq.exs
          have hlt := H3.out.lt
          have HR := Lib.hid hr
          clear hm hal hq hr
          go_wp2_with (refine wpList_storeN info39s rfl (.tmp 4) (.tmp 19) rfl rfl w.heap.size rfl [_, _, _, _, _] rfl rfl HL.out.th (by simp [Value.oneCell']) ?_; intro w7 g1 g2 g3 g4 g5)
          refine bodyPost_ret (ret_cell (cs := [_, _, _, _, _]) Tryd.results100 Tryd.underlying39 rfl info39s _ _ w.heap.size rfl g1) rfl ?_
          refine .ok (HL.out.mv.low g3 (Nat.le_refl _)) (by rw [HW3.out, HR.out]; rfl) ⟨.slice A l.length cp, rfl, ?_⟩ (HL.out.at'.other hR g4)
          exact (HX.out.same fun q h => g4 q (by have := h.1; omega)).more fun q h => ⟨by have := h.1; omega, by rw [g5]; exact h.2⟩
        · have HQ := Lib.hid (H3.out.mv.trans hm)
          clear hm
          go_wp2
          exact ⟨rfl, .bad HQ.out (by rw [HW3.out, hr]; rfl)⟩
      | false =>
        rw [hs2] at K HW
        clear hs2
        go_wp2_with fail
        refine K.out.mono ?_
        clear K
        rintro e' w3 ⟨rfl, hm, ha1⟩
        have ha1' : At w3 R S ts := ha1
        have H3 := Lib.hid (H2.out.moves hm ha1' hR)
        clear hm ha1 ha1'
        have K := Lib.hid (accept R S ts [104, 97, 115] ⟨#[104, 97, 115]⟩ _ H3.out.at' (by kernel_rfl) (by unfold Byn; decide))
        cases hs3 : seesT S.z [[104, 97, 115]] ts with
        | true =>
          rw [hs3] at K HW
          clear hs3
          go_wp2_with fail
          refine K.out.mono ?_
          clear K
          rintro e' w4 ⟨rfl, hm, ha1⟩
          have ha1' : At w4 R S ts.tail := ha1
          have H4 := Lib.hid (H3.out.moves hm ha1' hR)
          clear hm ha1 ha1'
          have HW4 : Hid (m = (enclosedP S.z e ts.tail).bind fun l r => .ok (.mk 9 0 [] l 0) r) := by show _ = _; rw [HW.out]; rfl
          have K := Lib.hid (enclosed R S d e HE.out ts.tail _ H4.out.at')
          go_wp2_with fail
          refine K.out.mono ?_
          clear K
          rintro e' wl ⟨hm, ⟨l, rl, V, hr, rfl, hq, hal⟩ | ⟨c, q, hr, rfl⟩⟩
          · obtain ⟨A, cp, rfl⟩ := exsC_slice hq.exs
            have HL := Lib.hid (H4.out.moves hm hal hR)
            have HX := Lib.hid hq.exs
            have hlt := H4.out.lt
            have HR := Lib.hid hr
            clear hm hal hq hr
            go_wp2_with (refine wpList_storeN info39s rfl (.tmp 4) (.tmp 26) rfl rfl w.heap.size rfl [_, _, _, _, _] rfl rfl HL.out.th (by simp [Value.oneCell']) ?_; intro w7 g1 g2 g3 g4 g5)
            refine bodyPost_ret (ret_cell (cs := [_, _, _, _, _]) Tryd.results100 Tryd.underlying39 rfl info39s _ _ w.heap.size rfl g1) rfl ?_
            refine .ok (HL.out.mv.low g3 (Nat.le_refl _)) (by rw [HW4.out, HR.out]; rfl) ⟨.slice A l.length cp, rfl, ?_⟩ (HL.out.at'.other hR g4)
            exact (HX.out.same fun q h => g4 q (by have := h.1; omega)).more fun q h => ⟨by have := h.1; omega, by rw [g5]; exact h.2⟩
          · have HQ := Lib.hid (H4.out.mv.trans hm)
            clear hm
            go_wp2
            exact ⟨rfl, .bad HQ.out (by rw [HW4.out, hr]; rfl)⟩
        | false =>
          rw [hs3] at K HW
          clear hs3
          go_wp2_with fail
          refine K.out.mono ?_
          clear K
          rintro e' w4 ⟨rfl, hm, ha1⟩
          have ha1' : At w4 R S ts := ha1
          have H4 := Lib.hid (H3.out.moves hm ha1' hR)
          clear hm ha1 ha1'
          have K := Lib.hid (want R S ts [108, 101, 110] ⟨#[108, 101, 110]⟩ _ H4.out.at' (by kernel_rfl) (by unfold Byn; decide))
          go_wp2_with fail
          refine K.out.mono ?_
          clear K
          rintro e' w9 ⟨hm, ⟨u, r9, xv, hr, rfl, hq, ha9⟩ | ⟨c, q, hr, rfl⟩⟩
          · rw [show xv = .tuple #[] from hq]
            have H9 := Lib.hid (H4.out.moves hm ha9 hR)
            have HW9 : Hid (m = (enclosedP S.z e r9).bind fun l r => .ok (.mk 10 0 [] l 0) r) := by show _ = _; rw [HW.out, hr]; rfl
            clear hm hr hq ha9
            have K := Lib.hid (enclosed R S d e HE.out r9 _ H9.out.at')
            go_wp2_with fail
            refine K.out.mono ?_
            clear K
            rintro e' wl ⟨hm, ⟨l, rl, V, hr, rfl, hq, hal⟩ | ⟨c, q, hr, rfl⟩⟩
            · obtain ⟨A, cp, rfl⟩ := exsC_slice hq.exs
              have HL := Lib.hid (H9.out.moves hm hal hR)
              have HX := Lib.hid hq.exs
              have hlt := H9.out.lt
              have HR := Lib.hid hr
              clear hm hal hq hr
              go_wp2_with (refine wpList_storeN info39s rfl (.tmp 4) (.tmp 32) rfl rfl w.heap.size rfl [_, _, _, _, _] rfl rfl HL.out.th (by simp [Value.oneCell']) ?_; intro w7 g1 g2 g3 g4 g5)
              refine bodyPost_ret (ret_cell (cs := [_, _, _, _, _]) Tryd.results100 Tryd.underlying39 rfl info39s _ _ w.heap.size rfl g1) rfl ?_
              refine .ok (HL.out.mv.low g3 (Nat.le_refl _)) (by rw [HW9.out, HR.out]; rfl) ⟨.slice A l.length cp, rfl, ?_⟩ (HL.out.at'.other hR g4)
              exact (HX.out.same fun q h => g4 q (by have := h.1; omega)).more fun q h => ⟨by have := h.1; omega, by rw [g5]; exact h.2⟩
            · have HQ := Lib.hid (H9.out.mv.trans hm)
              clear hm
              go_wp2
              exact ⟨rfl, .bad HQ.out (by rw [HW9.out, hr]; rfl)⟩
          · have HQ := Lib.hid (H4.out.mv.trans hm)
            clear hm
            go_wp2
            exact ⟨rfl, .bad HQ.out (by rw [HW.out, hr]; rfl)⟩
end Go.Proofs.YtoicncfpoklanaaDoor
