/- What an instruction does: what its walk needs and keeps. Conditions: those in each theorem. -/
import Derived.Test.YtilmidjkjgeoeaaDoorVL
namespace Go.Proofs.YtilmidjkjgeoeaaDoor
open Go.RowKit Go.MapKept
set_option maxRecDepth 100000
set_option linter.unusedVariables false
set_option linter.unusedSimpArgs false
theorem withinY (i n : Int) (w : World) (h : 0 ≤ i ∧ i < n) : Calls Tryd.prog 35 #[.int .i64 i, .int .i64 n] w fun e w' => e = .returned (.bool true) ∧ w = w' := by
  have := withinC i n w
  rwa [decide_eq_true h] at this
theorem withinN (i n : Int) (w : World) (h : ¬ (0 ≤ i ∧ i < n)) : Calls Tryd.prog 35 #[.int .i64 i, .int .i64 n] w fun e w' => e = .returned (.bool false) ∧ w = w' := by
  have := withinC i n w
  rwa [decide_eq_false h] at this
/-- what an instruction's walk asks -/
structure EfP (B W St : Nat) (x : Wx) (S : List (List Int)) (L V R : Value) (s : Sv) (P : Pv) (cs : List Cd) (w : World) : Prop where
  st : StS B W St x S L V R s w
  hC : CodesV w B cs x.C
  hfs : P.fs = cs.map (fun c => (c.params, c.result))
  hT : ∃ A c, x.Tx = .slice A P.nt c
  hr : x.r = P.res
  hr2 : OkN P.res
  hs : x.sl = s.sl.length
  hok : ∀ c ∈ cs, (∀ p ∈ c.params, okTy p) ∧ OkN c.result
  hl : x.E.length ≤ 1000000000
  tab : Tab w
  h0 : 0 < B
  hnt : P.nt ≤ 1024
  hcs : cs.length ≤ 1024
theorem EfP.on {B W St : Nat} {x : Wx} {S : List (List Int)} {L V R : Value} {s : Sv} {P : Pv} {cs : List Cd} {w w' : World} (h : EfP B W St x S L V R s P cs w) (hb : Below w.heap.size w w') : EfP B W St x S L V R s P cs w' :=
  ⟨h.st.on hb, h.hC.below (hb.mono h.st.wk.lt.2), h.hfs, h.hT, h.hr, h.hr2, h.hs, h.hok, h.hl, h.tab.below hb h.tab.1, h.h0, h.hnt, h.hcs⟩
/-- the instruction in its box, the walk's parts that stay -/
structure EfS (W bx : Nat) (k a : Int) (x : Wx) (w : World) : Prop where
  box : w.heap[bx]? = some (.cells #[.int .i64 k, .int .i64 a] 35 (0, 0))
  c2 : w.cell? ⟨W, 2, none⟩ = some x.C
  c3 : w.cell? ⟨W, 3, none⟩ = some x.Tx
  c7 : w.cell? ⟨W, 7, none⟩ = some (.int .i64 x.sl)
theorem EfS.all {W bx : Nat} {k a : Int} {x : Wx} {w : World} (h : EfS W bx k a x w) : w.cell? ⟨bx, 0, none⟩ = some (.int .i64 k) ∧ w.cell? ⟨bx, 1, none⟩ = some (.int .i64 a) ∧ w.cell? ⟨W, 2, none⟩ = some x.C ∧ w.cell? ⟨W, 3, none⟩ = some x.Tx ∧ w.cell? ⟨W, 7, none⟩ = some (.int .i64 x.sl) :=
  ⟨cell_at h.box rfl, cell_at h.box rfl, h.c2, h.c3, h.c7⟩
theorem EfS.wk {B W bx : Nat} {k a : Int} {x x' : Wx} {L V R : Value} {w : World} (h : WkAt B W x' L V R w) (hb : w.heap[bx]? = some (.cells #[.int .i64 k, .int .i64 a] 35 (0, 0))) (e1 : x'.C = x.C) (e2 : x'.Tx = x.Tx) (e3 : x'.sl = x.sl) : EfS W bx k a x w := by
  obtain ⟨_, _, c2, c3, _, _, c7, _⟩ := wk_cells h.cell
  exact ⟨hb, by rw [← e1]; exact c2, by rw [← e2]; exact c3, by rw [← e3]; exact c7⟩
theorem EfS.grown {B W St bx : Nat} {k a : Int} {x : Wx} {S : List (List Int)} {L V R : Value} {s : Sv} {w w' : World} (h : EfS W bx k a x w) (hs : StS B W St x S L V R s w) (hg : w.grownBy w' (some St)) : EfS W bx k a x w' := by
  obtain ⟨n, xs, h1, _⟩ := hs.st
  have hb : w'.heap[bx]? = some (.cells #[.int .i64 k, .int .i64 a] 35 (0, 0)) := by
    rw [hg.block bx (lt_someV h.box) fun e => by injection e with e; subst e; exact absurd (one_tag h.box h1) (by decide)]
    exact h.box
  exact EfS.wk (hs.wk.other hg h1 (by decide)) hb rfl rfl rfl
theorem EfS.below {W bx : Nat} {k a : Int} {x : Wx} {w w' : World} (h : EfS W bx k a x w) (hW : W < w.heap.size) (hb : Below w.heap.size w w') : EfS W bx k a x w' :=
  ⟨by rw [hb.block _ (lt_someV h.box)]; exact h.box, hb.cell_is hW h.c2, hb.cell_is hW h.c3, hb.cell_is hW h.c7⟩
theorem EfS.push {B W St bx : Nat} {k a : Int} {x : Wx} {S : List (List Int)} {V R : Value} {s : Sv} {t : Int} {r : Ending} {w w' : World} (h : EfS W bx k a x w) (hW : W < w.heap.size) (hp : PushS B W St x S V R s t w r w') : EfS W bx k a x w' := by
  rcases hp with ⟨_, _, hb⟩ | ⟨_, _, E', S', L', _, _, g, hm⟩
  · exact h.below hW hb
  · exact EfS.wk g.wk (hm.kept _ _ _ _ h.box (by unfold tsP; decide)) rfl rfl rfl
theorem EfS.eff {B W St bx : Nat} {k a : Int} {x : Wx} {S : List (List Int)} {V R : Value} {o : Option Sv} {r : Ending} {w w' : World} (h : EfS W bx k a x w) (hp : EffQ B W St x S V R o w r w') (hk : r = .returned (.bool true)) : EfS W bx k a x w' := by
  rcases hp with ⟨s', _, _, _, E', S', L', _, _, g, hm⟩ | ⟨_, e, _⟩
  · exact EfS.wk g.wk (hm.kept _ _ _ _ h.box (by unfold tsP; decide)) rfl rfl rfl
  · rw [e] at hk
    cases hk
/-- at the beginning -/
structure Ef0 (B W St : Nat) (x : Wx) (S : List (List Int)) (L V R : Value) (s : Sv) (P : Pv) (cs : List Cd) (k a : Int) (w w1 : World) : Prop where
  p : EfP B W St x S L V R s P cs w1
  e : EfS W w.heap.size k a x w1
  m : Mt B tsP w w1
  hB : B ≤ w.heap.size
  hB1 : B ≤ w1.heap.size
  hW : W < w1.heap.size
theorem ef0 {B W St : Nat} {x : Wx} {S : List (List Int)} {L V R : Value} {s : Sv} {P : Pv} {cs : List Cd} {w : World} (h : EfP B W St x S L V R s P cs w) (k a : Int) : Ef0 B W St x S L V R s P cs k a w (w.alloc (.cells #[.int .i64 k, .int .i64 a] 35)) := by
  have hb := below_alloc w (.cells #[.int .i64 k, .int .i64 a] 35)
  have h1 := h.on hb
  exact ⟨h1, EfS.wk h1.st.wk (heap_alloc_new w _) rfl rfl rfl, .of hb h.st.wk.lt.2, h.st.wk.lt.2, h1.st.wk.lt.2, h1.st.wk.lt.1⟩
theorem Ef0.drew {B W St : Nat} {x : Wx} {S : List (List Int)} {L V R : Value} {s : Sv} {P : Pv} {cs : List Cd} {k a : Int} {w w1 : World} (h : Ef0 B W St x S L V R s P cs k a w w1) : Ef0 B W St x S L V R s P cs k a w w1.drew :=
  ⟨h.p.on (Below.refl _ _).drew, ⟨h.e.box, h.e.c2, h.e.c3, h.e.c7⟩, h.m.trans (.of (Below.refl _ _).drew h.hB1), h.hB, h.hB1, h.hW⟩
theorem Ef0.mt {B W St : Nat} {x : Wx} {S : List (List Int)} {L V R : Value} {s : Sv} {P : Pv} {cs : List Cd} {k a : Int} {w w1 : World} (h : Ef0 B W St x S L V R s P cs k a w w1) : Mt B tsP w w1 := h.m
theorem Ef0.grow {B W St : Nat} {x : Wx} {S : List (List Int)} {L V R : Value} {s s' : Sv} {P : Pv} {cs : List Cd} {k a : Int} {w w1 w2 : World} (h : Ef0 B W St x S L V R s P cs k a w w1) (hs : StS B W St x S L V R s' w2) (hg : w1.grownBy w2 (some St)) (hl : s'.sl.length = s.sl.length := by rfl) : Ef0 B W St x S L V R s' P cs k a w w2 := by
  have hm := mt_st h.p.st hg
  exact ⟨⟨hs, h.p.hC.below hm.low, h.p.hfs, h.p.hT, h.p.hr, h.p.hr2, by rw [hl]; exact h.p.hs, h.p.hok, h.p.hl, h.p.tab.below hm.low h.p.h0, h.p.h0, h.p.hnt, h.p.hcs⟩, h.e.grown h.p.st hg, h.m.trans hm, h.hB, Nat.le_trans h.hB1 hg.size, Nat.lt_of_lt_of_le h.hW hg.size⟩
def EfQ (B W St : Nat) (x : Wx) (S : List (List Int)) (V R : Value) (P : Pv) (k a : Int) (s : Sv) (w : World) (r : Ending) (w' : World) : Prop := EffQ B W St x S V R (stepV P (k, a) s) w r w'
/-- what is pushed is what comes of it -/
theorem Ef0.push {B W St : Nat} {x : Wx} {S : List (List Int)} {L V R : Value} {s : Sv} {P : Pv} {cs : List Cd} {k a : Int} {w w1 : World} (h : Ef0 B W St x S L V R s P cs k a w w1) (t : Int) (ht : OkN t) :
    Calls Tryd.prog 34 #[.pointer (some ⟨W, 0, none⟩), .pointer (some ⟨St, 0, none⟩), .int .i64 t] w1 fun r w' => EfS W w.heap.size k a x w' ∧ (∃ b, r = .returned (.bool b)) ∧ EffQ B W St x S V R (if t = 0 then none else some (pushV s t)) w r w' := by
  refine (pushS t h.p.st ht h.p.hl).mono ?_
  intro r w' hq
  refine ⟨h.e.push h.hW hq, ?_, hq.eff h.mt h.hB1⟩
  rcases hq with ⟨_, e, _⟩ | ⟨_, e, _⟩ <;> exact ⟨_, e⟩
set_option maxHeartbeats 800000 in
theorem eff1 {B W St : Nat} {x : Wx} {S : List (List Int)} {L V R : Value} {s : Sv} {P : Pv} {cs : List Cd} {w : World} (a : Int) (h : EfP B W St x S L V R s P cs w) :
    Calls Tryd.prog 26 #[.pointer (some ⟨W, 0, none⟩), .pointer (some ⟨St, 0, none⟩), .agg #[.int .i64 1, .int .i64 a]] w (EfQ B W St x S V R P 1 a s w) := by
  have h0 := ef0 h 1 a
  obtain ⟨w1, hw1⟩ : ∃ w1, w.alloc (.cells #[.int .i64 1, .int .i64 a] 35) = w1 := ⟨_, rfl⟩
  rw [hw1] at h0
  have HW := Lib.hid hw1
  obtain ⟨b0, b1, _⟩ := h0.e.all
  have H0 := Lib.hid h0
  clear h h0 hw1
  by_cases ha : 0 ≤ a
  · by_cases hb : a ≤ 100000
    · have HR : Hid (EfQ B W St x S V R P 1 a s w (.returned (.bool true)) w1) := by
        show EffQ B W St x S V R (stepV P (1, a) s) w _ w1
        rw [show stepV P (1, a) s = some s from by unfold stepV; rw [if_pos rfl, if_pos ⟨ha, hb⟩]]
        exact eff_same H0.out.p.st H0.out.mt
      go_enter Tryd.func26, Tryd.ntmps26
      go_upto_region 1 with fail
      rw [HW.out]
      go_wp2
      go_ret
      exact HR.out
    · have HR : Hid (EfQ B W St x S V R P 1 a s w (.returned (.bool false)) w1) := by
        show EffQ B W St x S V R (stepV P (1, a) s) w _ w1
        rw [show stepV P (1, a) s = none from by unfold stepV; rw [if_pos rfl, if_neg (by simp; omega)]]
        exact eff_none H0.out.mt
      go_enter Tryd.func26, Tryd.ntmps26
      go_upto_region 1 with fail
      rw [HW.out]
      go_wp2
      go_ret
      exact HR.out
  · have HR : Hid (EfQ B W St x S V R P 1 a s w (.returned (.bool false)) w1) := by
      show EffQ B W St x S V R (stepV P (1, a) s) w _ w1
      rw [show stepV P (1, a) s = none from by unfold stepV; rw [if_pos rfl, if_neg (by simp; omega)]]
      exact eff_none H0.out.mt
    go_enter Tryd.func26, Tryd.ntmps26
    go_upto_region 1 with fail
    rw [HW.out]
    go_wp2
    go_ret
    exact HR.out
set_option maxHeartbeats 800000 in
theorem eff2 {B W St : Nat} {x : Wx} {S : List (List Int)} {L V R : Value} {s : Sv} {P : Pv} {cs : List Cd} {w : World} (a : Int) (h : EfP B W St x S L V R s P cs w) :
    Calls Tryd.prog 26 #[.pointer (some ⟨W, 0, none⟩), .pointer (some ⟨St, 0, none⟩), .agg #[.int .i64 2, .int .i64 a]] w (EfQ B W St x S V R P 2 a s w) := by
  have h0 := ef0 h 2 a
  obtain ⟨w1, hw1⟩ : ∃ w1, w.alloc (.cells #[.int .i64 2, .int .i64 a] 35) = w1 := ⟨_, rfl⟩
  rw [hw1] at h0
  have HW := Lib.hid hw1
  obtain ⟨b0, b1, _⟩ := h0.e.all
  have K1 := Lib.hid (h0.drew.push 1 (.inr (by unfold okTy; decide)))
  have HE : Hid (stepV P (2, a) s = some (pushV s 1)) := rfl
  clear h h0 hw1
  unfold EfQ
  rw [HE.out]
  go_enter Tryd.func26, Tryd.ntmps26
  go_upto_region 1 with fail
  rw [HW.out]
  go_wp2_with fail
  go_region_held3 (fun w' => True)
    (exact trivial)
    (first | (go_at_call 34; refine K1.out.mono ?_; rintro r w2 ⟨_, ⟨b, rfl⟩, g2⟩; have KG := Lib.hid g2; clear g2))
  go_wp2
  go_ret
  exact KG.out
end Go.Proofs.YtilmidjkjgeoeaaDoor
