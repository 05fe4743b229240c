/- What the program's reader makes of a statement that ends with a semicolon. Conditions: the reader and its tokens lie in memory; the reader of expressions reads as said. -/
import Derived.Test.YtoicncfpoklanaaDoorPp
namespace Go.Proofs.YtoicncfpoklanaaDoor
open Go.RowKit
set_option maxRecDepth 100000
set_option linter.unusedSimpArgs false

/-- a statement that lies in blocks from lo on -/
def QSt (lo : Nat) (w : World) (s : St) (v : Value) : Prop := StV w (Rng lo w.heap.size) s v
theorem QSt.plain {lo : Nat} {w : World} {op : Nat} {text : List Nat} {l : List Ex} {V : Value} {place : Nat} (h : ExsC w (Rng lo w.heap.size) l V) : QSt lo w (.mk op text l [] [] place) (.agg #[.int .i64 op, .string (strN text), V, .slice none 0 0, .slice none 0 0, .int .i64 place]) :=
  ⟨⟨V, .slice none 0 0, .slice none 0 0⟩, rfl, h, StsC.nothing _ _, StsC.nothing _ _⟩
theorem ExsC.stay {lo B n : Nat} {w w' : World} {l : List Ex} {V : Value} (h : ExsC w (Rng lo B) l V) (hk : ∀ k, k ≠ n → w'.heap[k]? = w.heap[k]?) (hn : n < lo) (hB : B ≤ w'.heap.size) : ExsC w' (Rng n w'.heap.size) l V :=
  (h.same fun q hq => hk q (by have := hq.1; omega)).more fun q hq => ⟨by have := hq.1; omega, Nat.lt_of_lt_of_le hq.2 hB⟩
theorem simpleP_eq (z : Nat) (e : Par Ex) (ts : List Tok) : simpleP z e ts = if seesT z [[108, 101, 116]] ts then (setP z e ts.tail).bind fun x r => .ok (.mk 1 x.1 [x.2] [] [] 0) r
  else if seesT z [[114, 101, 116, 117, 114, 110]] ts then (if seesT z [[59]] ts.tail then .ok (.mk 5 [] [] [] [] 0) ts.tail else (singleP e ts.tail).bind fun l r => .ok (.mk 5 [] l [] [] 0) r)
  else if seesT z [[112, 117, 116]] ts then (pairP z e ts.tail).bind fun l r => .ok (.mk 6 [] l [] [] 0) r
  else if seesT z [[100, 101, 108]] ts then (enclosedP z e ts.tail).bind fun l r => .ok (.mk 7 [] l [] [] 0) r
  else if setsT ts then (setP z e ts).bind fun x r => .ok (.mk 2 x.1 [x.2] [] [] 0) r
  else (singleP e ts).bind fun l r => .ok (.mk 8 [] l [] [] 0) r := by
  unfold simpleP singleP
  cases e ts <;> cases e ts.tail <;> rfl

set_option maxHeartbeats 3200000 in
theorem simple (R : Nat) (S : Src) (d : Nat) (e : Par Ex) (he : ExprOk R S d e) (ts : List Tok) (w : World) (ha : At w R S ts) :
    Calls Tryd.prog 64 #[.pointer (some ⟨R, 0, none⟩), .int .i64 d] w (Got R S (QSt w.heap.size) w (simpleP S.z e ts)) := by
  have hR := ha.lt
  have HE := Lib.hid he
  have H0 := Lib.hid (Res0.start ha [.int .i64 0, .string ⟨#[]⟩, .slice none 0 0, .slice none 0 0, .slice none 0 0, .int .i64 0] 43)
  have HW := Lib.hid (simpleP_eq S.z e ts)
  clear ha he
  generalize simpleP S.z e ts = m at *
  have K := Lib.hid (accept R S ts [108, 101, 116] ⟨#[108, 101, 116]⟩ _ H0.out.at' (by kernel_rfl) (by unfold Byn; decide))
  go_enter Tryd.func64, Tryd.ntmps64
  cases hs0 : seesT S.z [[108, 101, 116]] ts with
  | true =>
    rw [hs0] at K HW
    clear hs0
    go_wp2_with fail
    generalize w.alloc (.cells #[.int .i64 0, .string ⟨#[]⟩, .slice none 0 0, .slice none 0 0, .slice none 0 0, .int .i64 0] 43) = w0 at *
    refine K.out.mono ?_
    clear K
    rintro e' w1 ⟨rfl, hm, ha1⟩
    have ha1' : At w1 R S ts.tail := ha1
    have H1 := Lib.hid (H0.out.moves hm ha1' hR)
    clear hm ha1 ha1'
    have HWx : Hid (m = (setP S.z e ts.tail).bind fun x r => .ok (.mk 1 x.1 [x.2] [] [] 0) r) := by show _ = _; rw [HW.out]; rfl
    have K := Lib.hid (assignment R S 1 d e HE.out ts.tail _ H1.out.at')
    go_wp2_with fail
    refine K.out.mono ?_
    clear K
    rintro e' wl ⟨hm, ⟨l, rl, V, hr, rfl, hq, hal⟩ | ⟨c, q, hr, rfl⟩⟩
    · obtain ⟨V, rfl, hq⟩ := hq
      obtain ⟨A, cp, hV0⟩ := exsC_slice hq.exs
      have hV : V = .slice A 1 cp := hV0
      clear hV0
      subst hV
      have HL := Lib.hid (H1.out.moves hm hal hR)
      have HX := Lib.hid hq.exs
      have hlt := H1.out.lt
      have HR := Lib.hid hr
      clear hm hal hq hr
      go_wp2_with (refine wpList_storeN info43s rfl (.tmp 4) (.tmp 10) rfl rfl w.heap.size rfl [_, _, _, _, _, _] rfl rfl HL.out.th (by simp [Value.oneCell']) ?_; intro w7 g1 g2 g3 g4 g5)
      refine bodyPost_ret (ret_cell (cs := [_, _, _, _, _, _]) Tryd.results64 Tryd.underlying43 rfl info43s _ _ w.heap.size rfl g1) rfl ?_
      exact .ok (HL.out.mv.low g3 (Nat.le_refl _)) (v := .mk 1 l.1 [l.2] [] [] 0) (by rw [HWx.out, HR.out]; rfl) (QSt.plain (HX.out.stay g4 (by omega) (by rw [g5]; exact Nat.le_refl _))) (HL.out.at'.other hR g4)
    · have HQ := Lib.hid (H1.out.mv.trans hm)
      have HR := Lib.hid hr
      clear hm hr
      go_wp2
      exact ⟨rfl, .bad HQ.out (by rw [HWx.out, HR.out]; rfl)⟩
  | false =>
    rw [hs0] at K HW
    clear hs0
    go_wp2_with fail
    generalize w.alloc (.cells #[.int .i64 0, .string ⟨#[]⟩, .slice none 0 0, .slice none 0 0, .slice none 0 0, .int .i64 0] 43) = w0 at *
    refine K.out.mono ?_
    clear K
    rintro e' w1 ⟨rfl, hm, ha1⟩
    have ha1' : At w1 R S ts := ha1
    have H1 := Lib.hid (H0.out.moves hm ha1' hR)
    clear hm ha1 ha1'
    have K := Lib.hid (accept R S ts [114, 101, 116, 117, 114, 110] ⟨#[114, 101, 116, 117, 114, 110]⟩ _ H1.out.at' (by kernel_rfl) (by unfold Byn; decide))
    cases hs1 : seesT S.z [[114, 101, 116, 117, 114, 110]] ts with
    | true =>
      rw [hs1] at K HW
      clear hs1
      go_wp2_with fail
      refine K.out.mono ?_
      clear K
      rintro e' w2 ⟨rfl, hm, ha1⟩
      have ha1' : At w2 R S ts.tail := ha1
      have H2 := Lib.hid (H1.out.moves hm ha1' hR)
      clear hm ha1 ha1'
      have HWx : Hid (m = if seesT S.z [[59]] ts.tail then .ok (.mk 5 [] [] [] [] 0) ts.tail else (singleP e ts.tail).bind fun l r => .ok (.mk 5 [] l [] [] 0) r) := by show _ = _; rw [HW.out]; rfl
      have K := Lib.hid (sees_own R S ts.tail [[59]] _ #[.string ⟨#[59]⟩] (by rw [show (⟨#[59]⟩ : ByteArray) = strN [59] by kernel_rfl]; rfl) 1 rfl (by omega) H2.out.at' (by simp; unfold Byn; decide))
      cases hs9 : seesT S.z [[59]] ts.tail with
      | true =>
        rw [hs9] at K HWx
        clear hs9
        go_wp2_with fail
        refine K.out.mono ?_
        clear K
        rintro e' w9 ⟨rfl, hb9, ha9⟩
        have H9 := Lib.hid (H2.out.below hb9 (Nat.le_refl _))
        clear hb9 ha9
        have HWy : Hid (m = .ok (.mk 5 [] [] [] [] 0) ts.tail) := by show _ = _; rw [HWx.out]; rfl
        go_wp2_with (refine wpList_storeN info43s rfl (.tmp 4) (.tmp 17) rfl rfl w.heap.size rfl [_, _, _, _, _, _] rfl rfl H9.out.th (by simp [Value.oneCell']) ?_; intro w7 g1 g2 g3 g4 g5)
        refine bodyPost_ret (ret_cell (cs := [_, _, _, _, _, _]) Tryd.results64 Tryd.underlying43 rfl info43s _ _ w.heap.size rfl g1) rfl ?_
        exact .ok (H9.out.mv.low g3 (Nat.le_refl _)) (v := .mk 5 [] [] [] [] 0) HWy.out (QSt.plain (ExsC.nothing _ _)) (H9.out.at'.other hR g4)
      | false =>
        rw [hs9] at K HWx
        clear hs9
        go_wp2_with fail
        refine K.out.mono ?_
        clear K
        rintro e' w9 ⟨rfl, hb9, ha9⟩
        have H9 := Lib.hid (H2.out.below hb9 (Nat.le_refl _))
        clear hb9 ha9
        have HWy : Hid (m = (singleP e ts.tail).bind fun l r => .ok (.mk 5 [] l [] [] 0) r) := by show _ = _; rw [HWx.out]; rfl
        have K := Lib.hid (single R S d e HE.out ts.tail _ H9.out.at')
        go_wp2_with fail
        refine K.out.mono ?_
        clear K
        rintro e' wl ⟨hm, ⟨l, rl, V, hr, rfl, hq, hal⟩ | ⟨c, q, hr, rfl⟩⟩
        · obtain ⟨A, cp, rfl⟩ := exsC_slice hq.exs
          have HL := Lib.hid (H9.out.moves hm hal hR)
          have HX := Lib.hid hq.exs
          have hlt := H9.out.lt
          have HR := Lib.hid hr
          clear hm hal hq hr
          go_wp2_with (refine wpList_storeN info43s rfl (.tmp 4) (.tmp 21) rfl rfl w.heap.size rfl [_, _, _, _, _, _] rfl rfl HL.out.th (by simp [Value.oneCell']) ?_; intro w7 g1 g2 g3 g4 g5)
          refine bodyPost_ret (ret_cell (cs := [_, _, _, _, _, _]) Tryd.results64 Tryd.underlying43 rfl info43s _ _ w.heap.size rfl g1) rfl ?_
          exact .ok (HL.out.mv.low g3 (Nat.le_refl _)) (v := .mk 5 [] l [] [] 0) (by rw [HWy.out, HR.out]; rfl) (QSt.plain (HX.out.stay g4 (by omega) (by rw [g5]; exact Nat.le_refl _))) (HL.out.at'.other hR g4)
        · have HQ := Lib.hid (H9.out.mv.trans hm)
          have HR := Lib.hid hr
          clear hm hr
          go_wp2
          exact ⟨rfl, .bad HQ.out (by rw [HWy.out, HR.out]; rfl)⟩
    | false =>
      rw [hs1] at K HW
      clear hs1
      go_wp2_with fail
      refine K.out.mono ?_
      clear K
      rintro e' w2 ⟨rfl, hm, ha1⟩
      have ha1' : At w2 R S ts := ha1
      have H2 := Lib.hid (H1.out.moves hm ha1' hR)
      clear hm ha1 ha1'
      have K := Lib.hid (accept R S ts [112, 117, 116] ⟨#[112, 117, 116]⟩ _ H2.out.at' (by kernel_rfl) (by unfold Byn; decide))
      cases hs2 : seesT S.z [[112, 117, 116]] ts with
      | true =>
        rw [hs2] at K HW
        clear hs2
        go_wp2_with fail
        refine K.out.mono ?_
        clear K
        rintro e' w3 ⟨rfl, hm, ha1⟩
        have ha1' : At w3 R S ts.tail := ha1
        have H3 := Lib.hid (H2.out.moves hm ha1' hR)
        clear hm ha1 ha1'
        have HWx : Hid (m = (pairP S.z e ts.tail).bind fun l r => .ok (.mk 6 [] l [] [] 0) r) := by show _ = _; rw [HW.out]; rfl
        have K := Lib.hid (pair R S d e HE.out ts.tail _ H3.out.at')
        go_wp2_with fail
        refine K.out.mono ?_
        clear K
        rintro e' wl ⟨hm, ⟨l, rl, V, hr, rfl, hq, hal⟩ | ⟨c, q, hr, rfl⟩⟩
        · obtain ⟨A, cp, rfl⟩ := exsC_slice hq.exs
          have HL := Lib.hid (H3.out.moves hm hal hR)
          have HX := Lib.hid hq.exs
          have hlt := H3.out.lt
          have HR := Lib.hid hr
          clear hm hal hq hr
          go_wp2_with (refine wpList_storeN info43s rfl (.tmp 4) (.tmp 28) rfl rfl w.heap.size rfl [_, _, _, _, _, _] rfl rfl HL.out.th (by simp [Value.oneCell']) ?_; intro w7 g1 g2 g3 g4 g5)
          refine bodyPost_ret (ret_cell (cs := [_, _, _, _, _, _]) Tryd.results64 Tryd.underlying43 rfl info43s _ _ w.heap.size rfl g1) rfl ?_
          exact .ok (HL.out.mv.low g3 (Nat.le_refl _)) (v := .mk 6 [] l [] [] 0) (by rw [HWx.out, HR.out]; rfl) (QSt.plain (HX.out.stay g4 (by omega) (by rw [g5]; exact Nat.le_refl _))) (HL.out.at'.other hR g4)
        · have HQ := Lib.hid (H3.out.mv.trans hm)
          have HR := Lib.hid hr
          clear hm hr
          go_wp2
          exact ⟨rfl, .bad HQ.out (by rw [HWx.out, HR.out]; rfl)⟩
      | false =>
        rw [hs2] at K HW
        clear hs2
        go_wp2_with fail
        refine K.out.mono ?_
        clear K
        rintro e' w3 ⟨rfl, hm, ha1⟩
        have ha1' : At w3 R S ts := ha1
        have H3 := Lib.hid (H2.out.moves hm ha1' hR)
        clear hm ha1 ha1'
        have K := Lib.hid (accept R S ts [100, 101, 108] ⟨#[100, 101, 108]⟩ _ H3.out.at' (by kernel_rfl) (by unfold Byn; decide))
        cases hs3 : seesT S.z [[100, 101, 108]] ts with
        | true =>
          rw [hs3] at K HW
          clear hs3
          go_wp2_with fail
          refine K.out.mono ?_
          clear K
          rintro e' w4 ⟨rfl, hm, ha1⟩
          have ha1' : At w4 R S ts.tail := ha1
          have H4 := Lib.hid (H3.out.moves hm ha1' hR)
          clear hm ha1 ha1'
          have HWx : Hid (m = (enclosedP S.z e ts.tail).bind fun l r => .ok (.mk 7 [] l [] [] 0) r) := by show _ = _; rw [HW.out]; rfl
          have K := Lib.hid (enclosed R S d e HE.out ts.tail _ H4.out.at')
          go_wp2_with fail
          refine K.out.mono ?_
          clear K
          rintro e' wl ⟨hm, ⟨l, rl, V, hr, rfl, hq, hal⟩ | ⟨c, q, hr, rfl⟩⟩
          · obtain ⟨A, cp, rfl⟩ := exsC_slice hq.exs
            have HL := Lib.hid (H4.out.moves hm hal hR)
            have HX := Lib.hid hq.exs
            have hlt := H4.out.lt
            have HR := Lib.hid hr
            clear hm hal hq hr
            go_wp2_with (refine wpList_storeN info43s rfl (.tmp 4) (.tmp 35) rfl rfl w.heap.size rfl [_, _, _, _, _, _] rfl rfl HL.out.th (by simp [Value.oneCell']) ?_; intro w7 g1 g2 g3 g4 g5)
            refine bodyPost_ret (ret_cell (cs := [_, _, _, _, _, _]) Tryd.results64 Tryd.underlying43 rfl info43s _ _ w.heap.size rfl g1) rfl ?_
            exact .ok (HL.out.mv.low g3 (Nat.le_refl _)) (v := .mk 7 [] l [] [] 0) (by rw [HWx.out, HR.out]; rfl) (QSt.plain (HX.out.stay g4 (by omega) (by rw [g5]; exact Nat.le_refl _))) (HL.out.at'.other hR g4)
          · have HQ := Lib.hid (H4.out.mv.trans hm)
            have HR := Lib.hid hr
            clear hm hr
            go_wp2
            exact ⟨rfl, .bad HQ.out (by rw [HWx.out, HR.out]; rfl)⟩
        | false =>
          rw [hs3] at K HW
          clear hs3
          go_wp2_with fail
          refine K.out.mono ?_
          clear K
          rintro e' w4 ⟨rfl, hm, ha1⟩
          have ha1' : At w4 R S ts := ha1
          have H4 := Lib.hid (H3.out.moves hm ha1' hR)
          clear hm ha1 ha1'
          have K := Lib.hid (sets R S ts _ H4.out.at')
          cases hs4 : setsT ts with
          | true =>
            rw [hs4] at K HW
            clear hs4
            go_wp2_with fail
            refine K.out.mono ?_
            clear K
            rintro e' w5 ⟨rfl, hb5⟩
            have H5 := Lib.hid (H4.out.below hb5 (Nat.le_refl _))
            clear hb5
            have HWx : Hid (m = (setP S.z e ts).bind fun x r => .ok (.mk 2 x.1 [x.2] [] [] 0) r) := by show _ = _; rw [HW.out]; rfl
            have K := Lib.hid (assignment R S 2 d e HE.out ts _ H5.out.at')
            go_wp2_with fail
            refine K.out.mono ?_
            clear K
            rintro e' wl ⟨hm, ⟨l, rl, V, hr, rfl, hq, hal⟩ | ⟨c, q, hr, rfl⟩⟩
            · obtain ⟨V, rfl, hq⟩ := hq
              obtain ⟨A, cp, hV0⟩ := exsC_slice hq.exs
              have hV : V = .slice A 1 cp := hV0
              clear hV0
              subst hV
              have HL := Lib.hid (H5.out.moves hm hal hR)
              have HX := Lib.hid hq.exs
              have hlt := H5.out.lt
              have HR := Lib.hid hr
              clear hm hal hq hr
              go_wp2_with (refine wpList_storeN info43s rfl (.tmp 4) (.tmp 41) rfl rfl w.heap.size rfl [_, _, _, _, _, _] rfl rfl HL.out.th (by simp [Value.oneCell']) ?_; intro w7 g1 g2 g3 g4 g5)
              refine bodyPost_ret (ret_cell (cs := [_, _, _, _, _, _]) Tryd.results64 Tryd.underlying43 rfl info43s _ _ w.heap.size rfl g1) rfl ?_
              exact .ok (HL.out.mv.low g3 (Nat.le_refl _)) (v := .mk 2 l.1 [l.2] [] [] 0) (by rw [HWx.out, HR.out]; rfl) (QSt.plain (HX.out.stay g4 (by omega) (by rw [g5]; exact Nat.le_refl _))) (HL.out.at'.other hR g4)
            · have HQ := Lib.hid (H5.out.mv.trans hm)
              have HR := Lib.hid hr
              clear hm hr
              go_wp2
              exact ⟨rfl, .bad HQ.out (by rw [HWx.out, HR.out]; rfl)⟩
          | false =>
            rw [hs4] at K HW
            clear hs4
            go_wp2_with fail
            refine K.out.mono ?_
            clear K
            rintro e' w5 ⟨rfl, hb5⟩
            have H5 := Lib.hid (H4.out.below hb5 (Nat.le_refl _))
            clear hb5
            have HWx : Hid (m = (singleP e ts).bind fun l r => .ok (.mk 8 [] l [] [] 0) r) := by show _ = _; rw [HW.out]; rfl
            have K := Lib.hid (single R S d e HE.out ts _ H5.out.at')
            go_wp2_with fail
            refine K.out.mono ?_
            clear K
            rintro e' wl ⟨hm, ⟨l, rl, V, hr, rfl, hq, hal⟩ | ⟨c, q, hr, rfl⟩⟩
            · obtain ⟨A, cp, rfl⟩ := exsC_slice hq.exs
              have HL := Lib.hid (H5.out.moves hm hal hR)
              have HX := Lib.hid hq.exs
              have hlt := H5.out.lt
              have HR := Lib.hid hr
              clear hm hal hq hr
              go_wp2_with (refine wpList_storeN info43s rfl (.tmp 4) (.tmp 45) rfl rfl w.heap.size rfl [_, _, _, _, _, _] rfl rfl HL.out.th (by simp [Value.oneCell']) ?_; intro w7 g1 g2 g3 g4 g5)
              refine bodyPost_ret (ret_cell (cs := [_, _, _, _, _, _]) Tryd.results64 Tryd.underlying43 rfl info43s _ _ w.heap.size rfl g1) rfl ?_
              exact .ok (HL.out.mv.low g3 (Nat.le_refl _)) (v := .mk 8 [] l [] [] 0) (by rw [HWx.out, HR.out]; rfl) (QSt.plain (HX.out.stay g4 (by omega) (by rw [g5]; exact Nat.le_refl _))) (HL.out.at'.other hR g4)
            · have HQ := Lib.hid (H5.out.mv.trans hm)
              have HR := Lib.hid hr
              clear hm hr
              go_wp2
              exact ⟨rfl, .bad HQ.out (by rw [HWx.out, HR.out]; rfl)⟩
end Go.Proofs.YtoicncfpoklanaaDoor
