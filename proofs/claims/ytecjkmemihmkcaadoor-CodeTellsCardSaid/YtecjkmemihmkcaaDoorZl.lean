/- codeReader: what it returns reads a code. Conditions: the place lies where it says. -/
import Derived.Test.YtecjkmemihmkcaaDoorZk
namespace Go.Proofs.YtecjkmemihmkcaaDoor
set_option maxRecDepth 100000
open Go.RowKit
set_option linter.unusedSimpArgs false
set_option linter.unusedVariables false

theorem One.low {w w' : World} {b T : Nat} {v : Value} (h : One w b T v) (hb : Below w.heap.size w w') : One w' b T v := by
  show w'.heap[b]? = _
  rw [hb.block b (lt_of_some h)]
  exact h
theorem One.tag {w : World} {b b' T T' : Nat} {v v' : Value} (h : One w b T v) (h' : One w b' T' v') (hT : T ≠ T') : b ≠ b' := by
  rintro rfl
  unfold One at h h'
  rw [h] at h'
  injection h' with e
  injection e with _ e _
  exact hT e
theorem One.setSame {w : World} {b T : Nat} {v : Value} (h : One w b T v) (u : Value) : One (w.setCell ⟨b, 0, none⟩ u) b T u := by
  have := heap_setCell_same w b 0 _ T u h
  simpa [One] using this
theorem One.setFar {w : World} {b b' T : Nat} {v : Value} (h : One w b T v) (hb : b ≠ b') (u : Value) : One (w.setCell ⟨b', 0, none⟩ u) b T v := by
  show (w.setCell ⟨b', 0, none⟩ u).heap[b]? = _
  rw [Below.heap_setCell _ _ _ _ hb]
  exact h
theorem run_store_one {w : World} {b T : Nat} {v : Value} (h : One w b T v) (u : Value) (hu : u.oneCell' = true) : (store ⟨b, 0, none⟩ u).run Tryd.prog w = .ok () (w.setCell ⟨b, 0, none⟩ u) := by
  rw [run_store _ _ _ _ _ hu]
  simp [h.cell, frozen_of_row _ _ _ _ _ h]
theorem run_store_new (w : World) (n : Nat) (hn : n = w.heap.size) (u v : Value) (T : TypeId) (hv : v.oneCell' = true) : (store ⟨n, 0, none⟩ v).run Tryd.prog (w.alloc (.cells #[u] T)) = .ok () (w.alloc (.cells #[v] T)) := by
  subst hn
  rw [run_store _ _ _ _ _ hv]
  simp [go_sem]
abbrev Fnum (bp bq : Nat) : Value := .func (.func 72) #[] #[.pointer (some ⟨bp, 0, none⟩), .pointer (some ⟨bq, 0, none⟩)]
abbrev Ftext (bs bt : Nat) : Value := .func (.func 74) #[] #[.pointer (some ⟨bs, 0, none⟩), .pointer (some ⟨bt, 0, none⟩)]
/-- all boxes, behind both stores -/
structure Boxes (R g bc bd bp bq bs bt : Nat) (y : World) : Prop where
  g : One y g 55 (.pointer (some ⟨R, 0, none⟩))
  c : One y bc 80 (Fnum bp bq)
  d : One y bd 83 (Ftext bs bt)
  p : One y bp 55 (.pointer (some ⟨R, 0, none⟩))
  q : One y bq 82 (.func (.func 51) #[] #[])
  s : One y bs 55 (.pointer (some ⟨R, 0, none⟩))
  t : One y bt 85 (.func (.func 53) #[] #[])
theorem Boxes.low {R g bc bd bp bq bs bt : Nat} {y z : World} (h : Boxes R g bc bd bp bq bs bt y) (hb : Below y.heap.size y z) : Boxes R g bc bd bp bq bs bt z :=
  ⟨h.g.low hb, h.c.low hb, h.d.low hb, h.p.low hb, h.q.low hb, h.s.low hb, h.t.low hb⟩
theorem set_two {R g bc bd bp bq bs bt : Nat} (x : World) (hg : One x g 55 (.pointer (some ⟨R, 0, none⟩))) (hp : One x bp 55 (.pointer (some ⟨R, 0, none⟩))) (hq : One x bq 82 (.func (.func 51) #[] #[])) (hs : One x bs 55 (.pointer (some ⟨R, 0, none⟩)))
    (ht : One x bt 85 (.func (.func 53) #[] #[])) (hc : One x bc 80 .nilFunc) (hd : One x bd 83 .nilFunc) :
    One (x.setCell ⟨bc, 0, none⟩ (Fnum bp bq)) g 55 (.pointer (some ⟨R, 0, none⟩)) ∧ One (x.setCell ⟨bc, 0, none⟩ (Fnum bp bq)) bd 83 .nilFunc ∧
    One ((x.setCell ⟨bc, 0, none⟩ (Fnum bp bq)).setCell ⟨bd, 0, none⟩ (Ftext bs bt)) g 55 (.pointer (some ⟨R, 0, none⟩)) ∧ Boxes R g bc bd bp bq bs bt ((x.setCell ⟨bc, 0, none⟩ (Fnum bp bq)).setCell ⟨bd, 0, none⟩ (Ftext bs bt)) := by
  have g1 := hg.setFar (hg.tag hc (by decide)) (Fnum bp bq)
  have d1 := hd.setFar (hd.tag hc (by decide)) (Fnum bp bq)
  have c1 := hc.setSame (Fnum bp bq)
  have hdg := hg.tag hd (by decide)
  refine ⟨g1, d1, g1.setFar hdg _, ?_⟩
  exact ⟨g1.setFar hdg _, c1.setFar (hc.tag hd (by decide)) _, d1.setSame _, (hp.setFar (hp.tag hc (by decide)) _).setFar (hp.tag hd (by decide)) _, (hq.setFar (hq.tag hc (by decide)) _).setFar (hq.tag hd (by decide)) _,
    (hs.setFar (hs.tag hc (by decide)) _).setFar (hs.tag hd (by decide)) _, (ht.setFar (ht.tag hc (by decide)) _).setFar (ht.tag hd (by decide)) _⟩
/-- what the region leaves -/
def Tel (R : Nat) (w : World) (bc bd bp bq bs bt : Nat) (y : World) : Prop := Below w.heap.size w y ∧ Boxes R w.heap.size bc bd bp bq bs bt y
theorem tel_of {R : Nat} {w x : World} {bc bd bp bq bs bt : Nat} (hb : Below w.heap.size w x) (hc : w.heap.size ≤ bc) (hd : w.heap.size ≤ bd) {G : Prop}
    (h : G ∧ Boxes R w.heap.size bc bd bp bq bs bt ((x.setCell ⟨bc, 0, none⟩ (Fnum bp bq)).setCell ⟨bd, 0, none⟩ (Ftext bs bt))) : Tel R w bc bd bp bq bs bt ((x.setCell ⟨bc, 0, none⟩ (Fnum bp bq)).setCell ⟨bd, 0, none⟩ (Ftext bs bt)) :=
  ⟨(hb.setCell (p := ⟨bc, 0, none⟩) hc _).setCell (p := ⟨bd, 0, none⟩) hd _, h.2⟩

set_option maxHeartbeats 3200000 in
theorem codeReader (R : Nat) (S : Sc) (w : World) (hR : R < w.heap.size) :
    Calls Tryd.prog 31 #[.pointer (some ⟨R, 0, none⟩)] w fun e w' => ∃ F, e = .returned F ∧ Below w.heap.size w w' ∧ Part R S F (codeR S.l)
      (fun w' c v => ∃ P I, v = .agg (coC c P I).toArray ∧ RowT w' 43 c.params.length (tysV c.params) P ∧ RowT w' 50 c.instrs.length (insV c.instrs) I ∧ Byt c.name)
      (fun _ v => ∃ s A n c x y A' n' c', v = .agg #[.string s, .slice A n c, .int .i64 x, .int .i64 y, .slice A' n' c']) w' := by
  have B0 : Hid (Below w.heap.size w (w.alloc (.cells #[.pointer (some ⟨R, 0, none⟩)] 55)).drew) := Lib.hid (((Below.refl _ _).alloc (Nat.le_refl _) _).drew)
  have G0 : Hid (One (w.alloc (.cells #[.pointer (some ⟨R, 0, none⟩)] 55)).drew w.heap.size 55 (.pointer (some ⟨R, 0, none⟩))) := Lib.hid (heap_alloc_new w _)
  go_enter Tryd.func31, Tryd.ntmps31
  go_wp2_with fail
  go_cut [3, 4] (fun p q wx => ∃ bc bd bp bq bs bt, p = .pointer (some ⟨bc, 0, none⟩) ∧ q = .pointer (some ⟨bd, 0, none⟩) ∧ w.heap.size ≤ bc ∧ w.heap.size ≤ bd ∧ w.heap.size ≤ bp ∧ w.heap.size ≤ bq ∧ w.heap.size ≤ bs ∧ w.heap.size ≤ bt ∧ Tel R w bc bd bp bq bs bt wx)
  case first =>
    refine wp_region_held_drew (S := fun w' => w'.cell? ⟨w.heap.size, 0, none⟩ = some (.pointer (some ⟨R, 0, none⟩))) (by kernel_rfl) G0.out.cell (fun hHeld => ?_)
    generalize (w.alloc (.cells #[.pointer (some ⟨R, 0, none⟩)] 55)).drew = x0 at *
    refine wpAnyH_take (i := 0) (v := ?v0) rfl (by kernel_rfl) (by kernel_rfl) (by kernel_rfl) (fun _ _ _ h => h) (Or.inl ⟨by kernel_rfl, ?y0⟩) (by assumption) ?r0
    case y0 => (intro w hSw; (try dsimp only at hSw); go_simp; (try with_reducible rfl))
    try simp only [Act.put, List.getElem_toArray, List.getElem_cons_zero, List.getElem_cons_succ, List.setIfInBounds_toArray, List.set_cons_zero, List.set_cons_succ]
    refine wpAnyH_take (i := 2) (v := ?v2) rfl (by kernel_rfl) (by kernel_rfl) (by kernel_rfl) (fun _ _ _ h => h) (Or.inl ⟨by kernel_rfl, ?y2⟩) (by assumption) ?r2
    case y2 => (intro w hSw; (try dsimp only at hSw); go_simp; (try with_reducible rfl))
    try simp only [Act.put, List.getElem_toArray, List.getElem_cons_zero, List.getElem_cons_succ, List.setIfInBounds_toArray, List.set_cons_zero, List.set_cons_succ]
    refine wpAnyH_ready (rs := [1, 4, 5]) (by kernel_rfl) (by simp) ?_
    refine AllReadyH.cons rfl (fun K hK => ?_) (AllReadyH.cons rfl (fun K hK => ?_) (AllReadyH.cons rfl (fun K hK => ?_) AllReadyH.nil))
    · go_simp
      refine (makeNumX R x0).mono ?_
      rintro e y1 ⟨bp, bq, rfl, hb, l1, l2, h5, h6⟩
      have hbp : w.heap.size ≤ bp := Nat.le_trans B0.out.size l1
      have hbq : w.heap.size ≤ bq := Nat.le_trans B0.out.size l2
      have B1 := Lib.hid (B0.out.trans (hb.mono B0.out.size))
      have G1 := Lib.hid (G0.out.low hb)
      have Na1 := Lib.hid h5
      have Nb1 := Lib.hid h6
      clear hb h5 h6 l1 l2
      refine hK.out _ _ G1.out.cell (fun hHeld => ?_)
      clear hK K
      refine wpAnyH_ready (rs := [3, 4, 5]) (by kernel_rfl) (by simp) ?_
      refine AllReadyH.cons rfl (fun K hK => ?_) (AllReadyH.cons rfl (fun K hK => ?_) (AllReadyH.cons rfl (fun K hK => ?_) AllReadyH.nil))
      · go_simp
        refine (makeBytesX R y1).mono ?_
        rintro e y2 ⟨bs, bt, rfl, hb, l1, l2, h5, h6⟩
        have hbs : w.heap.size ≤ bs := Nat.le_trans B1.out.size l1
        have hbt : w.heap.size ≤ bt := Nat.le_trans B1.out.size l2
        have B2 := Lib.hid (B1.out.trans (hb.mono B1.out.size))
        have G2 := Lib.hid (G1.out.low hb)
        have Na2 := Lib.hid (Na1.out.low hb)
        have Nb2 := Lib.hid (Nb1.out.low hb)
        have Xa2 := Lib.hid h5
        have Xb2 := Lib.hid h6
        clear hb h5 h6 l1 l2
        refine hK.out _ _ G2.out.cell (fun hHeld => ?_)
        clear hK K
        refine wpAnyH_ready (rs := [4, 5]) (by kernel_rfl) (by simp) ?_
        refine AllReadyH.cons rfl (fun K hK => ?_) (AllReadyH.cons rfl (fun K hK => ?_) AllReadyH.nil)
        · go_simp
          have hb := (Below.refl y2.heap.size y2).alloc (Nat.le_refl _) (.cells #[.nilFunc] 80)
          have h5 : One (y2.alloc (.cells #[.nilFunc] 80)) y2.heap.size 80 .nilFunc := heap_alloc_new y2 _
          have hlc : w.heap.size ≤ y2.heap.size := B2.out.size
          generalize y2.alloc (.cells #[.nilFunc] 80) = y3 at *
          generalize hbc : y2.heap.size = bc at h5 hlc ⊢
          have B3 := Lib.hid (B2.out.trans (hb.mono B2.out.size))
          have G3 := Lib.hid (G2.out.low hb)
          have Na3 := Lib.hid (Na2.out.low hb)
          have Nb3 := Lib.hid (Nb2.out.low hb)
          have Xa3 := Lib.hid (Xa2.out.low hb)
          have Xb3 := Lib.hid (Xb2.out.low hb)
          have C3 := Lib.hid h5
          clear hb h5 hbc
          refine hK.out _ _ G3.out.cell (fun hHeld => ?_)
          clear hK K
          refine wpAnyH_ready (rs := [5]) (by kernel_rfl) (by simp) ?_
          refine AllReadyH.cons rfl (fun K hK => ?_) AllReadyH.nil
          go_simp
          have hb := (Below.refl y3.heap.size y3).alloc (Nat.le_refl _) (.cells #[.nilFunc] 83)
          have h5 : One (y3.alloc (.cells #[.nilFunc] 83)) y3.heap.size 83 .nilFunc := heap_alloc_new y3 _
          have hld : w.heap.size ≤ y3.heap.size := B3.out.size
          generalize y3.alloc (.cells #[.nilFunc] 83) = y4 at *
          generalize hbd : y3.heap.size = bd at h5 hld ⊢
          have B4 := Lib.hid (B3.out.trans (hb.mono B3.out.size))
          have G4 := Lib.hid (G3.out.low hb)
          have Na4 := Lib.hid (Na3.out.low hb)
          have Nb4 := Lib.hid (Nb3.out.low hb)
          have Xa4 := Lib.hid (Xa3.out.low hb)
          have Xb4 := Lib.hid (Xb3.out.low hb)
          have C4 := Lib.hid (C3.out.low hb)
          have D4 := Lib.hid h5
          clear hb h5 hbd
          refine hK.out _ _ G4.out.cell (fun hHeld => ?_)
          clear hK K
          have e1 := run_store_one C4.out (Fnum bp bq) rfl
          have hS := Lib.hid (set_two (R := R) (bp := bp) (bq := bq) (bs := bs) (bt := bt) (g := w.heap.size) y4 G4.out Na4.out Nb4.out Xa4.out Xb4.out C4.out D4.out)
          refine wpAnyH_ready (rs := [6]) (by kernel_rfl) (by simp) ?_
          refine AllReadyH.cons rfl (fun K hK => ?_) AllReadyH.nil
          go_simp
          clear e1
          refine hK.out _ _ hS.out.1.cell (fun hHeld => ?_)
          clear hK K
          have e1 := run_store_one hS.out.2.1 (Ftext bs bt) rfl
          refine wpAnyH_ready (rs := [7]) (by kernel_rfl) (by simp) ?_
          refine AllReadyH.cons rfl (fun K hK => ?_) AllReadyH.nil
          go_simp
          clear e1
          refine hK.out _ _ hS.out.2.2.1.cell (fun hHeld => ?_)
          clear hK K
          refine wpAnyH_done (by kernel_rfl) ?_ _
          clear hHeld
          go_wp2_with fail
          go_meet
          refine ⟨bc, bd, bp, bq, bs, bt, rfl, rfl, hlc, hld, hbp, hbq, hbs, hbt, ?_⟩
          exact tel_of B4.out hlc hld hS.out.2.2
        · go_simp
          have hb := (Below.refl y2.heap.size y2).alloc (Nat.le_refl _) (.cells #[.nilFunc] 83)
          have h5 : One (y2.alloc (.cells #[.nilFunc] 83)) y2.heap.size 83 .nilFunc := heap_alloc_new y2 _
          have hld : w.heap.size ≤ y2.heap.size := B2.out.size
          generalize y2.alloc (.cells #[.nilFunc] 83) = y3 at *
          generalize hbd : y2.heap.size = bd at h5 hld ⊢
          have B3 := Lib.hid (B2.out.trans (hb.mono B2.out.size))
          have G3 := Lib.hid (G2.out.low hb)
          have Na3 := Lib.hid (Na2.out.low hb)
          have Nb3 := Lib.hid (Nb2.out.low hb)
          have Xa3 := Lib.hid (Xa2.out.low hb)
          have Xb3 := Lib.hid (Xb2.out.low hb)
          have D3 := Lib.hid h5
          clear hb h5 hbd
          refine hK.out _ _ G3.out.cell (fun hHeld => ?_)
          clear hK K
          refine wpAnyH_ready (rs := [4]) (by kernel_rfl) (by simp) ?_
          refine AllReadyH.cons rfl (fun K hK => ?_) AllReadyH.nil
          go_simp
          have hb := (Below.refl y3.heap.size y3).alloc (Nat.le_refl _) (.cells #[.nilFunc] 80)
          have h5 : One (y3.alloc (.cells #[.nilFunc] 80)) y3.heap.size 80 .nilFunc := heap_alloc_new y3 _
          have hlc : w.heap.size ≤ y3.heap.size := B3.out.size
          generalize y3.alloc (.cells #[.nilFunc] 80) = y4 at *
          generalize hbc : y3.heap.size = bc at h5 hlc ⊢
          have B4 := Lib.hid (B3.out.trans (hb.mono B3.out.size))
          have G4 := Lib.hid (G3.out.low hb)
          have Na4 := Lib.hid (Na3.out.low hb)
          have Nb4 := Lib.hid (Nb3.out.low hb)
          have Xa4 := Lib.hid (Xa3.out.low hb)
          have Xb4 := Lib.hid (Xb3.out.low hb)
          have D4 := Lib.hid (D3.out.low hb)
          have C4 := Lib.hid h5
          clear hb h5 hbc
          refine hK.out _ _ G4.out.cell (fun hHeld => ?_)
          clear hK K
          have e1 := run_store_one C4.out (Fnum bp bq) rfl
          have hS := Lib.hid (set_two (R := R) (bp := bp) (bq := bq) (bs := bs) (bt := bt) (g := w.heap.size) y4 G4.out Na4.out Nb4.out Xa4.out Xb4.out C4.out D4.out)
          refine wpAnyH_ready (rs := [6]) (by kernel_rfl) (by simp) ?_
          refine AllReadyH.cons rfl (fun K hK => ?_) AllReadyH.nil
          go_simp
          clear e1
          refine hK.out _ _ hS.out.1.cell (fun hHeld => ?_)
          clear hK K
          have e1 := run_store_one hS.out.2.1 (Ftext bs bt) rfl
          refine wpAnyH_ready (rs := [7]) (by kernel_rfl) (by simp) ?_
          refine AllReadyH.cons rfl (fun K hK => ?_) AllReadyH.nil
          go_simp
          clear e1
          refine hK.out _ _ hS.out.2.2.1.cell (fun hHeld => ?_)
          clear hK K
          refine wpAnyH_done (by kernel_rfl) ?_ _
          clear hHeld
          go_wp2_with fail
          go_meet
          refine ⟨bc, bd, bp, bq, bs, bt, rfl, rfl, hlc, hld, hbp, hbq, hbs, hbt, ?_⟩
          exact tel_of B4.out hlc hld hS.out.2.2
      · go_simp
        have hb := (Below.refl y1.heap.size y1).alloc (Nat.le_refl _) (.cells #[.nilFunc] 80)
        have h5 : One (y1.alloc (.cells #[.nilFunc] 80)) y1.heap.size 80 .nilFunc := heap_alloc_new y1 _
        have hlc : w.heap.size ≤ y1.heap.size := B1.out.size
        generalize y1.alloc (.cells #[.nilFunc] 80) = y2 at *
        generalize hbc : y1.heap.size = bc at h5 hlc ⊢
        have B2 := Lib.hid (B1.out.trans (hb.mono B1.out.size))
        have G2 := Lib.hid (G1.out.low hb)
        have Na2 := Lib.hid (Na1.out.low hb)
        have Nb2 := Lib.hid (Nb1.out.low hb)
        have C2 := Lib.hid h5
        clear hb h5 hbc
        refine hK.out _ _ G2.out.cell (fun hHeld => ?_)
        clear hK K
        refine wpAnyH_ready (rs := [3, 5]) (by kernel_rfl) (by simp) ?_
        refine AllReadyH.cons rfl (fun K hK => ?_) (AllReadyH.cons rfl (fun K hK => ?_) AllReadyH.nil)
        · go_simp
          refine (makeBytesX R y2).mono ?_
          rintro e y3 ⟨bs, bt, rfl, hb, l1, l2, h5, h6⟩
          have hbs : w.heap.size ≤ bs := Nat.le_trans B2.out.size l1
          have hbt : w.heap.size ≤ bt := Nat.le_trans B2.out.size l2
          have B3 := Lib.hid (B2.out.trans (hb.mono B2.out.size))
          have G3 := Lib.hid (G2.out.low hb)
          have Na3 := Lib.hid (Na2.out.low hb)
          have Nb3 := Lib.hid (Nb2.out.low hb)
          have C3 := Lib.hid (C2.out.low hb)
          have Xa3 := Lib.hid h5
          have Xb3 := Lib.hid h6
          clear hb h5 h6 l1 l2
          refine hK.out _ _ G3.out.cell (fun hHeld => ?_)
          clear hK K
          refine wpAnyH_ready (rs := [5]) (by kernel_rfl) (by simp) ?_
          refine AllReadyH.cons rfl (fun K hK => ?_) AllReadyH.nil
          go_simp
          have hb := (Below.refl y3.heap.size y3).alloc (Nat.le_refl _) (.cells #[.nilFunc] 83)
          have h5 : One (y3.alloc (.cells #[.nilFunc] 83)) y3.heap.size 83 .nilFunc := heap_alloc_new y3 _
          have hld : w.heap.size ≤ y3.heap.size := B3.out.size
          generalize y3.alloc (.cells #[.nilFunc] 83) = y4 at *
          generalize hbd : y3.heap.size = bd at h5 hld ⊢
          have B4 := Lib.hid (B3.out.trans (hb.mono B3.out.size))
          have G4 := Lib.hid (G3.out.low hb)
          have Na4 := Lib.hid (Na3.out.low hb)
          have Nb4 := Lib.hid (Nb3.out.low hb)
          have C4 := Lib.hid (C3.out.low hb)
          have Xa4 := Lib.hid (Xa3.out.low hb)
          have Xb4 := Lib.hid (Xb3.out.low hb)
          have D4 := Lib.hid h5
          clear hb h5 hbd
          refine hK.out _ _ G4.out.cell (fun hHeld => ?_)
          clear hK K
          have e1 := run_store_one C4.out (Fnum bp bq) rfl
          have hS := Lib.hid (set_two (R := R) (bp := bp) (bq := bq) (bs := bs) (bt := bt) (g := w.heap.size) y4 G4.out Na4.out Nb4.out Xa4.out Xb4.out C4.out D4.out)
          refine wpAnyH_ready (rs := [6]) (by kernel_rfl) (by simp) ?_
          refine AllReadyH.cons rfl (fun K hK => ?_) AllReadyH.nil
          go_simp
          clear e1
          refine hK.out _ _ hS.out.1.cell (fun hHeld => ?_)
          clear hK K
          have e1 := run_store_one hS.out.2.1 (Ftext bs bt) rfl
          refine wpAnyH_ready (rs := [7]) (by kernel_rfl) (by simp) ?_
          refine AllReadyH.cons rfl (fun K hK => ?_) AllReadyH.nil
          go_simp
          clear e1
          refine hK.out _ _ hS.out.2.2.1.cell (fun hHeld => ?_)
          clear hK K
          refine wpAnyH_done (by kernel_rfl) ?_ _
          clear hHeld
          go_wp2_with fail
          go_meet
          refine ⟨bc, bd, bp, bq, bs, bt, rfl, rfl, hlc, hld, hbp, hbq, hbs, hbt, ?_⟩
          exact tel_of B4.out hlc hld hS.out.2.2
        · go_simp
          have hb := (Below.refl y2.heap.size y2).alloc (Nat.le_refl _) (.cells #[.nilFunc] 83)
          have h5 : One (y2.alloc (.cells #[.nilFunc] 83)) y2.heap.size 83 .nilFunc := heap_alloc_new y2 _
          have hld : w.heap.size ≤ y2.heap.size := B2.out.size
          generalize y2.alloc (.cells #[.nilFunc] 83) = y3 at *
          generalize hbd : y2.heap.size = bd at h5 hld ⊢
          have B3 := Lib.hid (B2.out.trans (hb.mono B2.out.size))
          have G3 := Lib.hid (G2.out.low hb)
          have Na3 := Lib.hid (Na2.out.low hb)
          have Nb3 := Lib.hid (Nb2.out.low hb)
          have C3 := Lib.hid (C2.out.low hb)
          have D3 := Lib.hid h5
          clear hb h5 hbd
          refine hK.out _ _ G3.out.cell (fun hHeld => ?_)
          clear hK K
          refine wpAnyH_ready (rs := [3]) (by kernel_rfl) (by simp) ?_
          refine AllReadyH.cons rfl (fun K hK => ?_) AllReadyH.nil
          go_simp
          refine (makeBytesX R y3).mono ?_
          rintro e y4 ⟨bs, bt, rfl, hb, l1, l2, h5, h6⟩
          have hbs : w.heap.size ≤ bs := Nat.le_trans B3.out.size l1
          have hbt : w.heap.size ≤ bt := Nat.le_trans B3.out.size l2
          have B4 := Lib.hid (B3.out.trans (hb.mono B3.out.size))
          have G4 := Lib.hid (G3.out.low hb)
          have Na4 := Lib.hid (Na3.out.low hb)
          have Nb4 := Lib.hid (Nb3.out.low hb)
          have C4 := Lib.hid (C3.out.low hb)
          have D4 := Lib.hid (D3.out.low hb)
          have Xa4 := Lib.hid h5
          have Xb4 := Lib.hid h6
          clear hb h5 h6 l1 l2
          refine hK.out _ _ G4.out.cell (fun hHeld => ?_)
          clear hK K
          have e1 := run_store_one C4.out (Fnum bp bq) rfl
          have hS := Lib.hid (set_two (R := R) (bp := bp) (bq := bq) (bs := bs) (bt := bt) (g := w.heap.size) y4 G4.out Na4.out Nb4.out Xa4.out Xb4.out C4.out D4.out)
          refine wpAnyH_ready (rs := [6]) (by kernel_rfl) (by simp) ?_
          refine AllReadyH.cons rfl (fun K hK => ?_) AllReadyH.nil
          go_simp
          clear e1
          refine hK.out _ _ hS.out.1.cell (fun hHeld => ?_)
          clear hK K
          have e1 := run_store_one hS.out.2.1 (Ftext bs bt) rfl
          refine wpAnyH_ready (rs := [7]) (by kernel_rfl) (by simp) ?_
          refine AllReadyH.cons rfl (fun K hK => ?_) AllReadyH.nil
          go_simp
          clear e1
          refine hK.out _ _ hS.out.2.2.1.cell (fun hHeld => ?_)
          clear hK K
          refine wpAnyH_done (by kernel_rfl) ?_ _
          clear hHeld
          go_wp2_with fail
          go_meet
          refine ⟨bc, bd, bp, bq, bs, bt, rfl, rfl, hlc, hld, hbp, hbq, hbs, hbt, ?_⟩
          exact tel_of B4.out hlc hld hS.out.2.2
      · go_simp
        have hb := (Below.refl y1.heap.size y1).alloc (Nat.le_refl _) (.cells #[.nilFunc] 83)
        have h5 : One (y1.alloc (.cells #[.nilFunc] 83)) y1.heap.size 83 .nilFunc := heap_alloc_new y1 _
        have hld : w.heap.size ≤ y1.heap.size := B1.out.size
        generalize y1.alloc (.cells #[.nilFunc] 83) = y2 at *
        generalize hbd : y1.heap.size = bd at h5 hld ⊢
        have B2 := Lib.hid (B1.out.trans (hb.mono B1.out.size))
        have G2 := Lib.hid (G1.out.low hb)
        have Na2 := Lib.hid (Na1.out.low hb)
        have Nb2 := Lib.hid (Nb1.out.low hb)
        have D2 := Lib.hid h5
        clear hb h5 hbd
        refine hK.out _ _ G2.out.cell (fun hHeld => ?_)
        clear hK K
        refine wpAnyH_ready (rs := [3, 4]) (by kernel_rfl) (by simp) ?_
        refine AllReadyH.cons rfl (fun K hK => ?_) (AllReadyH.cons rfl (fun K hK => ?_) AllReadyH.nil)
        · go_simp
          refine (makeBytesX R y2).mono ?_
          rintro e y3 ⟨bs, bt, rfl, hb, l1, l2, h5, h6⟩
          have hbs : w.heap.size ≤ bs := Nat.le_trans B2.out.size l1
          have hbt : w.heap.size ≤ bt := Nat.le_trans B2.out.size l2
          have B3 := Lib.hid (B2.out.trans (hb.mono B2.out.size))
          have G3 := Lib.hid (G2.out.low hb)
          have Na3 := Lib.hid (Na2.out.low hb)
          have Nb3 := Lib.hid (Nb2.out.low hb)
          have D3 := Lib.hid (D2.out.low hb)
          have Xa3 := Lib.hid h5
          have Xb3 := Lib.hid h6
          clear hb h5 h6 l1 l2
          refine hK.out _ _ G3.out.cell (fun hHeld => ?_)
          clear hK K
          refine wpAnyH_ready (rs := [4]) (by kernel_rfl) (by simp) ?_
          refine AllReadyH.cons rfl (fun K hK => ?_) AllReadyH.nil
          go_simp
          have hb := (Below.refl y3.heap.size y3).alloc (Nat.le_refl _) (.cells #[.nilFunc] 80)
          have h5 : One (y3.alloc (.cells #[.nilFunc] 80)) y3.heap.size 80 .nilFunc := heap_alloc_new y3 _
          have hlc : w.heap.size ≤ y3.heap.size := B3.out.size
          generalize y3.alloc (.cells #[.nilFunc] 80) = y4 at *
          generalize hbc : y3.heap.size = bc at h5 hlc ⊢
          have B4 := Lib.hid (B3.out.trans (hb.mono B3.out.size))
          have G4 := Lib.hid (G3.out.low hb)
          have Na4 := Lib.hid (Na3.out.low hb)
          have Nb4 := Lib.hid (Nb3.out.low hb)
          have D4 := Lib.hid (D3.out.low hb)
          have Xa4 := Lib.hid (Xa3.out.low hb)
          have Xb4 := Lib.hid (Xb3.out.low hb)
          have C4 := Lib.hid h5
          clear hb h5 hbc
          refine hK.out _ _ G4.out.cell (fun hHeld => ?_)
          clear hK K
          have e1 := run_store_one C4.out (Fnum bp bq) rfl
          have hS := Lib.hid (set_two (R := R) (bp := bp) (bq := bq) (bs := bs) (bt := bt) (g := w.heap.size) y4 G4.out Na4.out Nb4.out Xa4.out Xb4.out C4.out D4.out)
          refine wpAnyH_ready (rs := [6]) (by kernel_rfl) (by simp) ?_
          refine AllReadyH.cons rfl (fun K hK => ?_) AllReadyH.nil
          go_simp
          clear e1
          refine hK.out _ _ hS.out.1.cell (fun hHeld => ?_)
          clear hK K
          have e1 := run_store_one hS.out.2.1 (Ftext bs bt) rfl
          refine wpAnyH_ready (rs := [7]) (by kernel_rfl) (by simp) ?_
          refine AllReadyH.cons rfl (fun K hK => ?_) AllReadyH.nil
          go_simp
          clear e1
          refine hK.out _ _ hS.out.2.2.1.cell (fun hHeld => ?_)
          clear hK K
          refine wpAnyH_done (by kernel_rfl) ?_ _
          clear hHeld
          go_wp2_with fail
          go_meet
          refine ⟨bc, bd, bp, bq, bs, bt, rfl, rfl, hlc, hld, hbp, hbq, hbs, hbt, ?_⟩
          exact tel_of B4.out hlc hld hS.out.2.2
        · go_simp
          have hb := (Below.refl y2.heap.size y2).alloc (Nat.le_refl _) (.cells #[.nilFunc] 80)
          have h5 : One (y2.alloc (.cells #[.nilFunc] 80)) y2.heap.size 80 .nilFunc := heap_alloc_new y2 _
          have hlc : w.heap.size ≤ y2.heap.size := B2.out.size
          generalize y2.alloc (.cells #[.nilFunc] 80) = y3 at *
          generalize hbc : y2.heap.size = bc at h5 hlc ⊢
          have B3 := Lib.hid (B2.out.trans (hb.mono B2.out.size))
          have G3 := Lib.hid (G2.out.low hb)
          have Na3 := Lib.hid (Na2.out.low hb)
          have Nb3 := Lib.hid (Nb2.out.low hb)
          have D3 := Lib.hid (D2.out.low hb)
          have C3 := Lib.hid h5
          clear hb h5 hbc
          refine hK.out _ _ G3.out.cell (fun hHeld => ?_)
          clear hK K
          refine wpAnyH_ready (rs := [3]) (by kernel_rfl) (by simp) ?_
          refine AllReadyH.cons rfl (fun K hK => ?_) AllReadyH.nil
          go_simp
          refine (makeBytesX R y3).mono ?_
          rintro e y4 ⟨bs, bt, rfl, hb, l1, l2, h5, h6⟩
          have hbs : w.heap.size ≤ bs := Nat.le_trans B3.out.size l1
          have hbt : w.heap.size ≤ bt := Nat.le_trans B3.out.size l2
          have B4 := Lib.hid (B3.out.trans (hb.mono B3.out.size))
          have G4 := Lib.hid (G3.out.low hb)
          have Na4 := Lib.hid (Na3.out.low hb)
          have Nb4 := Lib.hid (Nb3.out.low hb)
          have D4 := Lib.hid (D3.out.low hb)
          have C4 := Lib.hid (C3.out.low hb)
          have Xa4 := Lib.hid h5
          have Xb4 := Lib.hid h6
          clear hb h5 h6 l1 l2
          refine hK.out _ _ G4.out.cell (fun hHeld => ?_)
          clear hK K
          have e1 := run_store_one C4.out (Fnum bp bq) rfl
          have hS := Lib.hid (set_two (R := R) (bp := bp) (bq := bq) (bs := bs) (bt := bt) (g := w.heap.size) y4 G4.out Na4.out Nb4.out Xa4.out Xb4.out C4.out D4.out)
          refine wpAnyH_ready (rs := [6]) (by kernel_rfl) (by simp) ?_
          refine AllReadyH.cons rfl (fun K hK => ?_) AllReadyH.nil
          go_simp
          clear e1
          refine hK.out _ _ hS.out.1.cell (fun hHeld => ?_)
          clear hK K
          have e1 := run_store_one hS.out.2.1 (Ftext bs bt) rfl
          refine wpAnyH_ready (rs := [7]) (by kernel_rfl) (by simp) ?_
          refine AllReadyH.cons rfl (fun K hK => ?_) AllReadyH.nil
          go_simp
          clear e1
          refine hK.out _ _ hS.out.2.2.1.cell (fun hHeld => ?_)
          clear hK K
          refine wpAnyH_done (by kernel_rfl) ?_ _
          clear hHeld
          go_wp2_with fail
          go_meet
          refine ⟨bc, bd, bp, bq, bs, bt, rfl, rfl, hlc, hld, hbp, hbq, hbs, hbt, ?_⟩
          exact tel_of B4.out hlc hld hS.out.2.2
    · go_simp
      have hb := (Below.refl x0.heap.size x0).alloc (Nat.le_refl _) (.cells #[.nilFunc] 80)
      have h5 : One (x0.alloc (.cells #[.nilFunc] 80)) x0.heap.size 80 .nilFunc := heap_alloc_new x0 _
      have hlc : w.heap.size ≤ x0.heap.size := B0.out.size
      generalize x0.alloc (.cells #[.nilFunc] 80) = y1 at *
      generalize hbc : x0.heap.size = bc at h5 hlc ⊢
      have B1 := Lib.hid (B0.out.trans (hb.mono B0.out.size))
      have G1 := Lib.hid (G0.out.low hb)
      have C1 := Lib.hid h5
      clear hb h5 hbc
      refine hK.out _ _ G1.out.cell (fun hHeld => ?_)
      clear hK K
      refine wpAnyH_ready (rs := [1, 5]) (by kernel_rfl) (by simp) ?_
      refine AllReadyH.cons rfl (fun K hK => ?_) (AllReadyH.cons rfl (fun K hK => ?_) AllReadyH.nil)
      · go_simp
        refine (makeNumX R y1).mono ?_
        rintro e y2 ⟨bp, bq, rfl, hb, l1, l2, h5, h6⟩
        have hbp : w.heap.size ≤ bp := Nat.le_trans B1.out.size l1
        have hbq : w.heap.size ≤ bq := Nat.le_trans B1.out.size l2
        have B2 := Lib.hid (B1.out.trans (hb.mono B1.out.size))
        have G2 := Lib.hid (G1.out.low hb)
        have C2 := Lib.hid (C1.out.low hb)
        have Na2 := Lib.hid h5
        have Nb2 := Lib.hid h6
        clear hb h5 h6 l1 l2
        refine hK.out _ _ G2.out.cell (fun hHeld => ?_)
        clear hK K
        refine wpAnyH_ready (rs := [3, 5]) (by kernel_rfl) (by simp) ?_
        refine AllReadyH.cons rfl (fun K hK => ?_) (AllReadyH.cons rfl (fun K hK => ?_) AllReadyH.nil)
        · go_simp
          refine (makeBytesX R y2).mono ?_
          rintro e y3 ⟨bs, bt, rfl, hb, l1, l2, h5, h6⟩
          have hbs : w.heap.size ≤ bs := Nat.le_trans B2.out.size l1
          have hbt : w.heap.size ≤ bt := Nat.le_trans B2.out.size l2
          have B3 := Lib.hid (B2.out.trans (hb.mono B2.out.size))
          have G3 := Lib.hid (G2.out.low hb)
          have C3 := Lib.hid (C2.out.low hb)
          have Na3 := Lib.hid (Na2.out.low hb)
          have Nb3 := Lib.hid (Nb2.out.low hb)
          have Xa3 := Lib.hid h5
          have Xb3 := Lib.hid h6
          clear hb h5 h6 l1 l2
          refine hK.out _ _ G3.out.cell (fun hHeld => ?_)
          clear hK K
          refine wpAnyH_ready (rs := [5]) (by kernel_rfl) (by simp) ?_
          refine AllReadyH.cons rfl (fun K hK => ?_) AllReadyH.nil
          go_simp
          have hb := (Below.refl y3.heap.size y3).alloc (Nat.le_refl _) (.cells #[.nilFunc] 83)
          have h5 : One (y3.alloc (.cells #[.nilFunc] 83)) y3.heap.size 83 .nilFunc := heap_alloc_new y3 _
          have hld : w.heap.size ≤ y3.heap.size := B3.out.size
          generalize y3.alloc (.cells #[.nilFunc] 83) = y4 at *
          generalize hbd : y3.heap.size = bd at h5 hld ⊢
          have B4 := Lib.hid (B3.out.trans (hb.mono B3.out.size))
          have G4 := Lib.hid (G3.out.low hb)
          have C4 := Lib.hid (C3.out.low hb)
          have Na4 := Lib.hid (Na3.out.low hb)
          have Nb4 := Lib.hid (Nb3.out.low hb)
          have Xa4 := Lib.hid (Xa3.out.low hb)
          have Xb4 := Lib.hid (Xb3.out.low hb)
          have D4 := Lib.hid h5
          clear hb h5 hbd
          refine hK.out _ _ G4.out.cell (fun hHeld => ?_)
          clear hK K
          have e1 := run_store_one C4.out (Fnum bp bq) rfl
          have hS := Lib.hid (set_two (R := R) (bp := bp) (bq := bq) (bs := bs) (bt := bt) (g := w.heap.size) y4 G4.out Na4.out Nb4.out Xa4.out Xb4.out C4.out D4.out)
          refine wpAnyH_ready (rs := [6]) (by kernel_rfl) (by simp) ?_
          refine AllReadyH.cons rfl (fun K hK => ?_) AllReadyH.nil
          go_simp
          clear e1
          refine hK.out _ _ hS.out.1.cell (fun hHeld => ?_)
          clear hK K
          have e1 := run_store_one hS.out.2.1 (Ftext bs bt) rfl
          refine wpAnyH_ready (rs := [7]) (by kernel_rfl) (by simp) ?_
          refine AllReadyH.cons rfl (fun K hK => ?_) AllReadyH.nil
          go_simp
          clear e1
          refine hK.out _ _ hS.out.2.2.1.cell (fun hHeld => ?_)
          clear hK K
          refine wpAnyH_done (by kernel_rfl) ?_ _
          clear hHeld
          go_wp2_with fail
          go_meet
          refine ⟨bc, bd, bp, bq, bs, bt, rfl, rfl, hlc, hld, hbp, hbq, hbs, hbt, ?_⟩
          exact tel_of B4.out hlc hld hS.out.2.2
        · go_simp
          have hb := (Below.refl y2.heap.size y2).alloc (Nat.le_refl _) (.cells #[.nilFunc] 83)
          have h5 : One (y2.alloc (.cells #[.nilFunc] 83)) y2.heap.size 83 .nilFunc := heap_alloc_new y2 _
          have hld : w.heap.size ≤ y2.heap.size := B2.out.size
          generalize y2.alloc (.cells #[.nilFunc] 83) = y3 at *
          generalize hbd : y2.heap.size = bd at h5 hld ⊢
          have B3 := Lib.hid (B2.out.trans (hb.mono B2.out.size))
          have G3 := Lib.hid (G2.out.low hb)
          have C3 := Lib.hid (C2.out.low hb)
          have Na3 := Lib.hid (Na2.out.low hb)
          have Nb3 := Lib.hid (Nb2.out.low hb)
          have D3 := Lib.hid h5
          clear hb h5 hbd
          refine hK.out _ _ G3.out.cell (fun hHeld => ?_)
          clear hK K
          refine wpAnyH_ready (rs := [3]) (by kernel_rfl) (by simp) ?_
          refine AllReadyH.cons rfl (fun K hK => ?_) AllReadyH.nil
          go_simp
          refine (makeBytesX R y3).mono ?_
          rintro e y4 ⟨bs, bt, rfl, hb, l1, l2, h5, h6⟩
          have hbs : w.heap.size ≤ bs := Nat.le_trans B3.out.size l1
          have hbt : w.heap.size ≤ bt := Nat.le_trans B3.out.size l2
          have B4 := Lib.hid (B3.out.trans (hb.mono B3.out.size))
          have G4 := Lib.hid (G3.out.low hb)
          have C4 := Lib.hid (C3.out.low hb)
          have Na4 := Lib.hid (Na3.out.low hb)
          have Nb4 := Lib.hid (Nb3.out.low hb)
          have D4 := Lib.hid (D3.out.low hb)
          have Xa4 := Lib.hid h5
          have Xb4 := Lib.hid h6
          clear hb h5 h6 l1 l2
          refine hK.out _ _ G4.out.cell (fun hHeld => ?_)
          clear hK K
          have e1 := run_store_one C4.out (Fnum bp bq) rfl
          have hS := Lib.hid (set_two (R := R) (bp := bp) (bq := bq) (bs := bs) (bt := bt) (g := w.heap.size) y4 G4.out Na4.out Nb4.out Xa4.out Xb4.out C4.out D4.out)
          refine wpAnyH_ready (rs := [6]) (by kernel_rfl) (by simp) ?_
          refine AllReadyH.cons rfl (fun K hK => ?_) AllReadyH.nil
          go_simp
          clear e1
          refine hK.out _ _ hS.out.1.cell (fun hHeld => ?_)
          clear hK K
          have e1 := run_store_one hS.out.2.1 (Ftext bs bt) rfl
          refine wpAnyH_ready (rs := [7]) (by kernel_rfl) (by simp) ?_
          refine AllReadyH.cons rfl (fun K hK => ?_) AllReadyH.nil
          go_simp
          clear e1
          refine hK.out _ _ hS.out.2.2.1.cell (fun hHeld => ?_)
          clear hK K
          refine wpAnyH_done (by kernel_rfl) ?_ _
          clear hHeld
          go_wp2_with fail
          go_meet
          refine ⟨bc, bd, bp, bq, bs, bt, rfl, rfl, hlc, hld, hbp, hbq, hbs, hbt, ?_⟩
          exact tel_of B4.out hlc hld hS.out.2.2
      · go_simp
        have hb := (Below.refl y1.heap.size y1).alloc (Nat.le_refl _) (.cells #[.nilFunc] 83)
        have h5 : One (y1.alloc (.cells #[.nilFunc] 83)) y1.heap.size 83 .nilFunc := heap_alloc_new y1 _
        have hld : w.heap.size ≤ y1.heap.size := B1.out.size
        generalize y1.alloc (.cells #[.nilFunc] 83) = y2 at *
        generalize hbd : y1.heap.size = bd at h5 hld ⊢
        have B2 := Lib.hid (B1.out.trans (hb.mono B1.out.size))
        have G2 := Lib.hid (G1.out.low hb)
        have C2 := Lib.hid (C1.out.low hb)
        have D2 := Lib.hid h5
        clear hb h5 hbd
        refine hK.out _ _ G2.out.cell (fun hHeld => ?_)
        clear hK K
        refine wpAnyH_ready (rs := [1]) (by kernel_rfl) (by simp) ?_
        refine AllReadyH.cons rfl (fun K hK => ?_) AllReadyH.nil
        go_simp
        refine (makeNumX R y2).mono ?_
        rintro e y3 ⟨bp, bq, rfl, hb, l1, l2, h5, h6⟩
        have hbp : w.heap.size ≤ bp := Nat.le_trans B2.out.size l1
        have hbq : w.heap.size ≤ bq := Nat.le_trans B2.out.size l2
        have B3 := Lib.hid (B2.out.trans (hb.mono B2.out.size))
        have G3 := Lib.hid (G2.out.low hb)
        have C3 := Lib.hid (C2.out.low hb)
        have D3 := Lib.hid (D2.out.low hb)
        have Na3 := Lib.hid h5
        have Nb3 := Lib.hid h6
        clear hb h5 h6 l1 l2
        refine hK.out _ _ G3.out.cell (fun hHeld => ?_)
        clear hK K
        refine wpAnyH_ready (rs := [3]) (by kernel_rfl) (by simp) ?_
        refine AllReadyH.cons rfl (fun K hK => ?_) AllReadyH.nil
        go_simp
        refine (makeBytesX R y3).mono ?_
        rintro e y4 ⟨bs, bt, rfl, hb, l1, l2, h5, h6⟩
        have hbs : w.heap.size ≤ bs := Nat.le_trans B3.out.size l1
        have hbt : w.heap.size ≤ bt := Nat.le_trans B3.out.size l2
        have B4 := Lib.hid (B3.out.trans (hb.mono B3.out.size))
        have G4 := Lib.hid (G3.out.low hb)
        have C4 := Lib.hid (C3.out.low hb)
        have D4 := Lib.hid (D3.out.low hb)
        have Na4 := Lib.hid (Na3.out.low hb)
        have Nb4 := Lib.hid (Nb3.out.low hb)
        have Xa4 := Lib.hid h5
        have Xb4 := Lib.hid h6
        clear hb h5 h6 l1 l2
        refine hK.out _ _ G4.out.cell (fun hHeld => ?_)
        clear hK K
        have e1 := run_store_one C4.out (Fnum bp bq) rfl
        have hS := Lib.hid (set_two (R := R) (bp := bp) (bq := bq) (bs := bs) (bt := bt) (g := w.heap.size) y4 G4.out Na4.out Nb4.out Xa4.out Xb4.out C4.out D4.out)
        refine wpAnyH_ready (rs := [6]) (by kernel_rfl) (by simp) ?_
        refine AllReadyH.cons rfl (fun K hK => ?_) AllReadyH.nil
        go_simp
        clear e1
        refine hK.out _ _ hS.out.1.cell (fun hHeld => ?_)
        clear hK K
        have e1 := run_store_one hS.out.2.1 (Ftext bs bt) rfl
        refine wpAnyH_ready (rs := [7]) (by kernel_rfl) (by simp) ?_
        refine AllReadyH.cons rfl (fun K hK => ?_) AllReadyH.nil
        go_simp
        clear e1
        refine hK.out _ _ hS.out.2.2.1.cell (fun hHeld => ?_)
        clear hK K
        refine wpAnyH_done (by kernel_rfl) ?_ _
        clear hHeld
        go_wp2_with fail
        go_meet
        refine ⟨bc, bd, bp, bq, bs, bt, rfl, rfl, hlc, hld, hbp, hbq, hbs, hbt, ?_⟩
        exact tel_of B4.out hlc hld hS.out.2.2
    · go_simp
      have hb := (Below.refl x0.heap.size x0).alloc (Nat.le_refl _) (.cells #[.nilFunc] 83)
      have h5 : One (x0.alloc (.cells #[.nilFunc] 83)) x0.heap.size 83 .nilFunc := heap_alloc_new x0 _
      have hld : w.heap.size ≤ x0.heap.size := B0.out.size
      generalize x0.alloc (.cells #[.nilFunc] 83) = y1 at *
      generalize hbd : x0.heap.size = bd at h5 hld ⊢
      have B1 := Lib.hid (B0.out.trans (hb.mono B0.out.size))
      have G1 := Lib.hid (G0.out.low hb)
      have D1 := Lib.hid h5
      clear hb h5 hbd
      refine hK.out _ _ G1.out.cell (fun hHeld => ?_)
      clear hK K
      refine wpAnyH_ready (rs := [1, 4]) (by kernel_rfl) (by simp) ?_
      refine AllReadyH.cons rfl (fun K hK => ?_) (AllReadyH.cons rfl (fun K hK => ?_) AllReadyH.nil)
      · go_simp
        refine (makeNumX R y1).mono ?_
        rintro e y2 ⟨bp, bq, rfl, hb, l1, l2, h5, h6⟩
        have hbp : w.heap.size ≤ bp := Nat.le_trans B1.out.size l1
        have hbq : w.heap.size ≤ bq := Nat.le_trans B1.out.size l2
        have B2 := Lib.hid (B1.out.trans (hb.mono B1.out.size))
        have G2 := Lib.hid (G1.out.low hb)
        have D2 := Lib.hid (D1.out.low hb)
        have Na2 := Lib.hid h5
        have Nb2 := Lib.hid h6
        clear hb h5 h6 l1 l2
        refine hK.out _ _ G2.out.cell (fun hHeld => ?_)
        clear hK K
        refine wpAnyH_ready (rs := [3, 4]) (by kernel_rfl) (by simp) ?_
        refine AllReadyH.cons rfl (fun K hK => ?_) (AllReadyH.cons rfl (fun K hK => ?_) AllReadyH.nil)
        · go_simp
          refine (makeBytesX R y2).mono ?_
          rintro e y3 ⟨bs, bt, rfl, hb, l1, l2, h5, h6⟩
          have hbs : w.heap.size ≤ bs := Nat.le_trans B2.out.size l1
          have hbt : w.heap.size ≤ bt := Nat.le_trans B2.out.size l2
          have B3 := Lib.hid (B2.out.trans (hb.mono B2.out.size))
          have G3 := Lib.hid (G2.out.low hb)
          have D3 := Lib.hid (D2.out.low hb)
          have Na3 := Lib.hid (Na2.out.low hb)
          have Nb3 := Lib.hid (Nb2.out.low hb)
          have Xa3 := Lib.hid h5
          have Xb3 := Lib.hid h6
          clear hb h5 h6 l1 l2
          refine hK.out _ _ G3.out.cell (fun hHeld => ?_)
          clear hK K
          refine wpAnyH_ready (rs := [4]) (by kernel_rfl) (by simp) ?_
          refine AllReadyH.cons rfl (fun K hK => ?_) AllReadyH.nil
          go_simp
          have hb := (Below.refl y3.heap.size y3).alloc (Nat.le_refl _) (.cells #[.nilFunc] 80)
          have h5 : One (y3.alloc (.cells #[.nilFunc] 80)) y3.heap.size 80 .nilFunc := heap_alloc_new y3 _
          have hlc : w.heap.size ≤ y3.heap.size := B3.out.size
          generalize y3.alloc (.cells #[.nilFunc] 80) = y4 at *
          generalize hbc : y3.heap.size = bc at h5 hlc ⊢
          have B4 := Lib.hid (B3.out.trans (hb.mono B3.out.size))
          have G4 := Lib.hid (G3.out.low hb)
          have D4 := Lib.hid (D3.out.low hb)
          have Na4 := Lib.hid (Na3.out.low hb)
          have Nb4 := Lib.hid (Nb3.out.low hb)
          have Xa4 := Lib.hid (Xa3.out.low hb)
          have Xb4 := Lib.hid (Xb3.out.low hb)
          have C4 := Lib.hid h5
          clear hb h5 hbc
          refine hK.out _ _ G4.out.cell (fun hHeld => ?_)
          clear hK K
          have e1 := run_store_one C4.out (Fnum bp bq) rfl
          have hS := Lib.hid (set_two (R := R) (bp := bp) (bq := bq) (bs := bs) (bt := bt) (g := w.heap.size) y4 G4.out Na4.out Nb4.out Xa4.out Xb4.out C4.out D4.out)
          refine wpAnyH_ready (rs := [6]) (by kernel_rfl) (by simp) ?_
          refine AllReadyH.cons rfl (fun K hK => ?_) AllReadyH.nil
          go_simp
          clear e1
          refine hK.out _ _ hS.out.1.cell (fun hHeld => ?_)
          clear hK K
          have e1 := run_store_one hS.out.2.1 (Ftext bs bt) rfl
          refine wpAnyH_ready (rs := [7]) (by kernel_rfl) (by simp) ?_
          refine AllReadyH.cons rfl (fun K hK => ?_) AllReadyH.nil
          go_simp
          clear e1
          refine hK.out _ _ hS.out.2.2.1.cell (fun hHeld => ?_)
          clear hK K
          refine wpAnyH_done (by kernel_rfl) ?_ _
          clear hHeld
          go_wp2_with fail
          go_meet
          refine ⟨bc, bd, bp, bq, bs, bt, rfl, rfl, hlc, hld, hbp, hbq, hbs, hbt, ?_⟩
          exact tel_of B4.out hlc hld hS.out.2.2
        · go_simp
          have hb := (Below.refl y2.heap.size y2).alloc (Nat.le_refl _) (.cells #[.nilFunc] 80)
          have h5 : One (y2.alloc (.cells #[.nilFunc] 80)) y2.heap.size 80 .nilFunc := heap_alloc_new y2 _
          have hlc : w.heap.size ≤ y2.heap.size := B2.out.size
          generalize y2.alloc (.cells #[.nilFunc] 80) = y3 at *
          generalize hbc : y2.heap.size = bc at h5 hlc ⊢
          have B3 := Lib.hid (B2.out.trans (hb.mono B2.out.size))
          have G3 := Lib.hid (G2.out.low hb)
          have D3 := Lib.hid (D2.out.low hb)
          have Na3 := Lib.hid (Na2.out.low hb)
          have Nb3 := Lib.hid (Nb2.out.low hb)
          have C3 := Lib.hid h5
          clear hb h5 hbc
          refine hK.out _ _ G3.out.cell (fun hHeld => ?_)
          clear hK K
          refine wpAnyH_ready (rs := [3]) (by kernel_rfl) (by simp) ?_
          refine AllReadyH.cons rfl (fun K hK => ?_) AllReadyH.nil
          go_simp
          refine (makeBytesX R y3).mono ?_
          rintro e y4 ⟨bs, bt, rfl, hb, l1, l2, h5, h6⟩
          have hbs : w.heap.size ≤ bs := Nat.le_trans B3.out.size l1
          have hbt : w.heap.size ≤ bt := Nat.le_trans B3.out.size l2
          have B4 := Lib.hid (B3.out.trans (hb.mono B3.out.size))
          have G4 := Lib.hid (G3.out.low hb)
          have D4 := Lib.hid (D3.out.low hb)
          have Na4 := Lib.hid (Na3.out.low hb)
          have Nb4 := Lib.hid (Nb3.out.low hb)
          have C4 := Lib.hid (C3.out.low hb)
          have Xa4 := Lib.hid h5
          have Xb4 := Lib.hid h6
          clear hb h5 h6 l1 l2
          refine hK.out _ _ G4.out.cell (fun hHeld => ?_)
          clear hK K
          have e1 := run_store_one C4.out (Fnum bp bq) rfl
          have hS := Lib.hid (set_two (R := R) (bp := bp) (bq := bq) (bs := bs) (bt := bt) (g := w.heap.size) y4 G4.out Na4.out Nb4.out Xa4.out Xb4.out C4.out D4.out)
          refine wpAnyH_ready (rs := [6]) (by kernel_rfl) (by simp) ?_
          refine AllReadyH.cons rfl (fun K hK => ?_) AllReadyH.nil
          go_simp
          clear e1
          refine hK.out _ _ hS.out.1.cell (fun hHeld => ?_)
          clear hK K
          have e1 := run_store_one hS.out.2.1 (Ftext bs bt) rfl
          refine wpAnyH_ready (rs := [7]) (by kernel_rfl) (by simp) ?_
          refine AllReadyH.cons rfl (fun K hK => ?_) AllReadyH.nil
          go_simp
          clear e1
          refine hK.out _ _ hS.out.2.2.1.cell (fun hHeld => ?_)
          clear hK K
          refine wpAnyH_done (by kernel_rfl) ?_ _
          clear hHeld
          go_wp2_with fail
          go_meet
          refine ⟨bc, bd, bp, bq, bs, bt, rfl, rfl, hlc, hld, hbp, hbq, hbs, hbt, ?_⟩
          exact tel_of B4.out hlc hld hS.out.2.2
      · go_simp
        have hb := (Below.refl y1.heap.size y1).alloc (Nat.le_refl _) (.cells #[.nilFunc] 80)
        have h5 : One (y1.alloc (.cells #[.nilFunc] 80)) y1.heap.size 80 .nilFunc := heap_alloc_new y1 _
        have hlc : w.heap.size ≤ y1.heap.size := B1.out.size
        generalize y1.alloc (.cells #[.nilFunc] 80) = y2 at *
        generalize hbc : y1.heap.size = bc at h5 hlc ⊢
        have B2 := Lib.hid (B1.out.trans (hb.mono B1.out.size))
        have G2 := Lib.hid (G1.out.low hb)
        have D2 := Lib.hid (D1.out.low hb)
        have C2 := Lib.hid h5
        clear hb h5 hbc
        refine hK.out _ _ G2.out.cell (fun hHeld => ?_)
        clear hK K
        refine wpAnyH_ready (rs := [1]) (by kernel_rfl) (by simp) ?_
        refine AllReadyH.cons rfl (fun K hK => ?_) AllReadyH.nil
        go_simp
        refine (makeNumX R y2).mono ?_
        rintro e y3 ⟨bp, bq, rfl, hb, l1, l2, h5, h6⟩
        have hbp : w.heap.size ≤ bp := Nat.le_trans B2.out.size l1
        have hbq : w.heap.size ≤ bq := Nat.le_trans B2.out.size l2
        have B3 := Lib.hid (B2.out.trans (hb.mono B2.out.size))
        have G3 := Lib.hid (G2.out.low hb)
        have D3 := Lib.hid (D2.out.low hb)
        have C3 := Lib.hid (C2.out.low hb)
        have Na3 := Lib.hid h5
        have Nb3 := Lib.hid h6
        clear hb h5 h6 l1 l2
        refine hK.out _ _ G3.out.cell (fun hHeld => ?_)
        clear hK K
        refine wpAnyH_ready (rs := [3]) (by kernel_rfl) (by simp) ?_
        refine AllReadyH.cons rfl (fun K hK => ?_) AllReadyH.nil
        go_simp
        refine (makeBytesX R y3).mono ?_
        rintro e y4 ⟨bs, bt, rfl, hb, l1, l2, h5, h6⟩
        have hbs : w.heap.size ≤ bs := Nat.le_trans B3.out.size l1
        have hbt : w.heap.size ≤ bt := Nat.le_trans B3.out.size l2
        have B4 := Lib.hid (B3.out.trans (hb.mono B3.out.size))
        have G4 := Lib.hid (G3.out.low hb)
        have D4 := Lib.hid (D3.out.low hb)
        have C4 := Lib.hid (C3.out.low hb)
        have Na4 := Lib.hid (Na3.out.low hb)
        have Nb4 := Lib.hid (Nb3.out.low hb)
        have Xa4 := Lib.hid h5
        have Xb4 := Lib.hid h6
        clear hb h5 h6 l1 l2
        refine hK.out _ _ G4.out.cell (fun hHeld => ?_)
        clear hK K
        have e1 := run_store_one C4.out (Fnum bp bq) rfl
        have hS := Lib.hid (set_two (R := R) (bp := bp) (bq := bq) (bs := bs) (bt := bt) (g := w.heap.size) y4 G4.out Na4.out Nb4.out Xa4.out Xb4.out C4.out D4.out)
        refine wpAnyH_ready (rs := [6]) (by kernel_rfl) (by simp) ?_
        refine AllReadyH.cons rfl (fun K hK => ?_) AllReadyH.nil
        go_simp
        clear e1
        refine hK.out _ _ hS.out.1.cell (fun hHeld => ?_)
        clear hK K
        have e1 := run_store_one hS.out.2.1 (Ftext bs bt) rfl
        refine wpAnyH_ready (rs := [7]) (by kernel_rfl) (by simp) ?_
        refine AllReadyH.cons rfl (fun K hK => ?_) AllReadyH.nil
        go_simp
        clear e1
        refine hK.out _ _ hS.out.2.2.1.cell (fun hHeld => ?_)
        clear hK K
        refine wpAnyH_done (by kernel_rfl) ?_ _
        clear hHeld
        go_wp2_with fail
        go_meet
        refine ⟨bc, bd, bp, bq, bs, bt, rfl, rfl, hlc, hld, hbp, hbq, hbs, hbt, ?_⟩
        exact tel_of B4.out hlc hld hS.out.2.2
  case rest =>
    obtain ⟨bc, bd, bp, bq, bs, bt, rfl, rfl, hc, hd, hp, hq, hs, ht, hT⟩ := hcut
    have HT := Lib.hid hT
    have hmf : ∀ (fn : Fn) (first cap : Array Value) (w : World), (Instr.makeFunc fn first cap).run Tryd.prog w = .ok (.func fn first cap) w := fun _ _ _ _ => rfl
    have hs1 := run_store_new wc wc.heap.size rfl .nilFunc (.func (.func 54) #[] #[.pointer (some ⟨bc, 0, none⟩)]) 87 rfl
    have hs2 := run_store_new (wc.alloc (.cells #[.func (.func 54) #[] #[.pointer (some ⟨bc, 0, none⟩)]] 87)) (wc.heap.size + 1) (by simp) .nilFunc (.func (.func 56) #[] #[.pointer (some ⟨bc, 0, none⟩)]) 89 rfl
    have bz : Below wc.heap.size wc ((wc.alloc (.cells #[.func (.func 54) #[] #[.pointer (some ⟨bc, 0, none⟩)]] 87)).alloc (.cells #[.func (.func 56) #[] #[.pointer (some ⟨bc, 0, none⟩)]] 89)) := ((Below.refl _ _).alloc (Nat.le_refl _) _).alloc (by simp) _
    have HB := Lib.hid (hT.1.trans (bz.mono hT.1.size))
    have HX := Lib.hid (hT.2.low bz)
    have hz := hT.1.size
    have E5 : Hid (One ((wc.alloc (.cells #[.func (.func 54) #[] #[.pointer (some ⟨bc, 0, none⟩)]] 87)).alloc (.cells #[.func (.func 56) #[] #[.pointer (some ⟨bc, 0, none⟩)]] 89)) wc.heap.size 87 (.func (.func 54) #[] #[.pointer (some ⟨bc, 0, none⟩)])) := Lib.hid (by
      show _ = _
      rw [Below.heap_alloc _ _ _ (by simp)]
      exact heap_alloc_new wc _)
    have E6 : Hid (One ((wc.alloc (.cells #[.func (.func 54) #[] #[.pointer (some ⟨bc, 0, none⟩)]] 87)).alloc (.cells #[.func (.func 56) #[] #[.pointer (some ⟨bc, 0, none⟩)]] 89)) (wc.heap.size + 1) 89 (.func (.func 56) #[] #[.pointer (some ⟨bc, 0, none⟩)])) := Lib.hid (by
      have := heap_alloc_new (wc.alloc (.cells #[.func (.func 54) #[] #[.pointer (some ⟨bc, 0, none⟩)]] 87)) (.cells #[.func (.func 56) #[] #[.pointer (some ⟨bc, 0, none⟩)]] 89)
      rw [World.size_alloc] at this
      exact this)
    clear hT bz
    go_wp2
    go_ret
    have pn := makeNumP R S bp bq _ (by omega) (by omega) HX.out.p HX.out.q
    exact ⟨_, rfl, HB.out, partCode R S bd w.heap.size wc.heap.size bc (wc.heap.size + 1) _ _ _ _ _ (makeBytesP R S bs bt _ (by omega) (by omega) HX.out.s HX.out.t) (partKind R S bc _ _ pn HX.out.c (by omega)) pn (partInstr R S bc _ _ pn HX.out.c (by omega)) HX.out.d HX.out.g E5.out HX.out.c E6.out (by omega) (by omega) (by omega) (by omega) (by omega)⟩

end Go.Proofs.YtecjkmemihmkcaaDoor
