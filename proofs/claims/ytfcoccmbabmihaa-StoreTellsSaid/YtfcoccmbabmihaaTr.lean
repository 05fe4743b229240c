/- What Read returns. Conditions: what is read lies in memory. -/
import Derived.Test.YtfcoccmbabmihaaTp
namespace Go.Proofs.Ytfcoccmbabmihaa
open Go.RowKit
set_option linter.unusedSimpArgs false
set_option linter.unusedVariables false

theorem apart3 {w : World} {b g o o1 o2 : Nat} {u v : Value} {cs : List Value} (h : w.cell? ⟨b, o1, none⟩ = some u ∧ w.cell? ⟨b, o2, none⟩ = some v) (hb : b ≠ g) : (w.setCells g o cs).cell? ⟨b, o1, none⟩ = some u ∧ (w.setCells g o cs).cell? ⟨b, o2, none⟩ = some v :=
  ⟨by rw [World.cell?_of_block (a := ⟨b, o1, none⟩) (w := w) ((below_cells g o cs w).2.1 _ hb)]; exact h.1, by rw [World.cell?_of_block (a := ⟨b, o2, none⟩) (w := w) ((below_cells g o cs w).2.1 _ hb)]; exact h.2⟩

set_option maxHeartbeats 3200000 in
theorem readC (A : Option Addr) (b : List Int) (c : Nat) (w : World) (hs : SB w w.heap.size (.slice A b.length c) b) :
    Calls Try.prog 16 #[.slice A b.length c] w (PutOk w (rdL b) (rdE b)) := by
  obtain ⟨_, _, e0, hbc, hcm, hl, hby⟩ := hs
  injection e0 with e1 _ e2
  subst e1 e2
  have hcm' := hcm
  have K := Lib.hid (rowB_ A b c 0 w hbc hcm' (by omega) (by omega) hl hby)
  have HY := Lib.hid (row_byt hby)
  clear hl hby
  unfold maxLen at hcm
  by_cases h1 : rowE b 0 = 0
  · have hro : roL b 0 = rowI b := if_pos h1
    have hrt : roT b 0 = rowT b := if_pos h1
    have hsm := pairUp_sml h1
    rw [hro, hrt, h1] at K
    have HSm := Lib.hid hsm.1
    have hn := hsm.2
    have hpl := pairUp_len (rowI b)
    clear hro hrt hsm
    by_cases h2 : rowT b = (b.length : Int)
    · have hT : (rowT b != (b.length : Int)) = false := by simpa using h2
      rw [h2] at K
      by_cases h3 : (rowI b).length % 2 = 0
      · have hev : ((rowI b).length : Int) % 2 = 0 := by omega
        have hdv : ((rowI b).length : Int) / 2 = ((pairUp (rowI b)).length : Int) := by rw [hpl]; omega
        have HDV := Lib.hid hpl
        have HFin : Hid (∀ q : Bool, q = decide (RightM (pairUp (rowI b))) → (rdE b = if q then 0 else 111) ∧ rdL b = if q then pairUp (rowI b) else []) := by
          intro q hq
          cases q with
          | true => exact rdE_yes h1 h2 h3 (of_decide_eq_true hq.symm)
          | false => exact rdE_no h1 fun hx => of_decide_eq_false hq.symm hx.2.2
        have hne : ((b.length : Int) != (b.length : Int)) = false := by simp
        clear h1 h2 h3 hT hpl
        generalize rdE b = E at *
        generalize rdL b = L at *
        generalize rowI b = ri at *
        obtain ⟨i0, hi, hz0, hz1, hz2⟩ := info_parts info42
        go_enter Try.func16, Try.ntmps16
        go_wp2_with fail
        (with_reducible refine K.out.mono ?_)
        clear K
        rintro e w1 ⟨v, rfl, hG, hb⟩
        obtain ⟨A1, c1, rfl, g1, g2, _⟩ := hG.grid
        have HG := Lib.hid hG
        have B1 := Lib.hid hb
        unfold maxLen at g2
        clear hG hb
        go_wp2_with (at_make; refine wpList_make_full _ rfl _ _ 22 rfl w1.heap.size 42 i0 (.agg #[nilS, nilS]) 2 Try.underlying22 hi hz0 hz1 _ _ _ _ (pairUp ri).length rfl rfl (by omega) (by omega) (by rw [hz2, HDV.out]; omega) (by rw [HDV.out]; unfold maxLen; omega) (Nat.le_refl _) ?_; intro w2 ho2 hg2)
        have hst : Hid (Mk w1 (pairUp ri) (pairUp ri).length 0 w2) := Mk.start ho2 hg2
        have hpn : (pairUp ri).length ≤ 512 := by rw [HDV.out]; omega
        clear ho2 hg2 hev hdv
        go_wp2
        go_loopw [8, 34] (fun _ i wr => ∃ k : Nat, k ≤ (pairUp ri).length ∧ i = .int .i64 k ∧ Hid (Mk w1 (pairUp ri) (pairUp ri).length k wr)) (fun _ i _ => (pairUp ri).length - (intOf i).toNat)
        case atStart => exact ⟨0, Nat.zero_le _, rfl, hst⟩
        case round =>
          clear hst
          obtain ⟨k, hk, rfl, HMk⟩ := hrel
          by_cases hlt : k < (pairUp ri).length
          · have hg : (pairUp ri)[k]? = some (pairUp ri)[k] := List.getElem?_eq_getElem hlt
            generalize (pairUp ri)[k] = p at hg
            obtain ⟨x1, x2⟩ := pairUp_get ri hg
            have hi2 : k * 2 + 1 < ri.length := (List.getElem?_eq_some_iff.1 x2).1
            obtain ⟨bb, cc, hv, _, _, hbw, hcells⟩ := HG.out.cells HY.out (by omega)
            injection hv with hv z1 hv2
            clear z1
            subst hv hv2
            obtain ⟨u, hu, su⟩ := hcells _ _ x1
            obtain ⟨u', hu', su'⟩ := hcells _ _ x2
            have HMd : Hid (Mk w1 (pairUp ri) (pairUp ri).length k wr.drew ∧ SB wr.drew wr.drew.heap.size u p.1 ∧ SB wr.drew wr.drew.heap.size u' p.2) := ⟨HMk.out.on (Below.refl _ _).drew, (su.on HMk.out.bl).on (Below.refl _ _).drew, (su'.on HMk.out.bl).on (Below.refl _ _).drew⟩
            obtain ⟨Au, cu, rfl, _⟩ := su
            obtain ⟨Av, cv, rfl, _⟩ := su'
            have HCC : Hid (∀ w', Below wr.heap.size wr w' → w'.cell? ⟨bb, 2 * k, none⟩ = some (.slice Au p.1.length cu) ∧ w'.cell? ⟨bb, 2 * k + 1, none⟩ = some (.slice Av p.2.length cv)) := fun w' hb => by
              have hz := HMk.out.bl.size
              rw [show 2 * k = k * 2 by omega]
              exact ⟨by rw [hb.cell (by show bb < _; omega), HMk.out.bl.cell (by exact hbw)]; exact hu, by rw [hb.cell (by show bb < _; omega), HMk.out.bl.cell (by exact hbw)]; exact hu'⟩
            have hbne : bb ≠ w1.heap.size := by omega
            have ew : IntKind.i64.wrap (2 * (k : Int)) = 2 * (k : Int) := IntWalk.i64_in _ (by omega)
            have ew2 : IntKind.i64.wrap (2 * (k : Int) + 1) = 2 * (k : Int) + 1 := IntWalk.i64_in _ (by omega)
            have f0 : (0 : Int) ≤ 2 * (k : Int) := by omega
            have f1 : (0 : Int) ≤ 2 * (k : Int) + 1 := by omega
            have f2 : 2 * (k : Int) < (ri.length : Int) := by omega
            have f3 : 2 * (k : Int) + 1 < (ri.length : Int) := by omega
            have f4 : (2 * (k : Int)).toNat = 2 * k := by omega
            have f5 : (2 * (k : Int) + 1).toNat = 2 * k + 1 := by omega
            clear x1 x2 hu hu' hcells
            go_wp2_with fail
            refine wp_region_held_drew (S := fun w' => w'.cell? ⟨bb, 2 * k, none⟩ = some (.slice Au p.1.length cu) ∧ w'.cell? ⟨bb, 2 * k + 1, none⟩ = some (.slice Av p.2.length cv)) (by kernel_rfl) (HCC.out _ (Below.refl _ _).drew) (fun hHeld => ?_)
            refine wpAnyH_take (i := 0) (v := ?vr1) rfl (by kernel_rfl) (by kernel_rfl) (by kernel_rfl) (fun _ _ _ h => h) (Or.inl ⟨by kernel_rfl, ?yr1⟩) (by assumption) ?rr1
            case yr1 => (intro w hSw; (try dsimp only at hSw); obtain ⟨s1, s2⟩ := hSw; go_simp; (try with_reducible rfl))
            try simp only [Act.put, List.getElem_toArray, List.getElem_cons_zero, List.getElem_cons_succ, List.setIfInBounds_toArray, List.set_cons_zero, List.set_cons_succ]
            refine wpAnyH_take (i := 1) (v := ?vr2) rfl (by kernel_rfl) (by kernel_rfl) (by kernel_rfl) (fun _ _ _ h => h) (Or.inl ⟨by kernel_rfl, ?yr2⟩) (by assumption) ?rr2
            case yr2 => (intro w hSw; (try dsimp only at hSw); obtain ⟨s1, s2⟩ := hSw; go_simp; (try with_reducible rfl))
            try simp only [Act.put, List.getElem_toArray, List.getElem_cons_zero, List.getElem_cons_succ, List.setIfInBounds_toArray, List.set_cons_zero, List.set_cons_succ]
            refine wpAnyH_take (i := 2) (v := ?vr3) rfl (by kernel_rfl) (by kernel_rfl) (by kernel_rfl) (fun _ _ _ h => h) (Or.inl ⟨by kernel_rfl, ?yr3⟩) (by assumption) ?rr3
            case yr3 => (intro w hSw; (try dsimp only at hSw); obtain ⟨s1, s2⟩ := hSw; go_simp; (try with_reducible rfl))
            try simp only [Act.put, List.getElem_toArray, List.getElem_cons_zero, List.getElem_cons_succ, List.setIfInBounds_toArray, List.set_cons_zero, List.set_cons_succ]
            refine wpAnyH_take (i := 3) (v := ?vr4) rfl (by kernel_rfl) (by kernel_rfl) (by kernel_rfl) (fun _ _ _ h => h) (Or.inl ⟨by kernel_rfl, ?yr4⟩) (by assumption) ?rr4
            case yr4 => (intro w hSw; (try dsimp only at hSw); obtain ⟨s1, s2⟩ := hSw; go_simp; (try with_reducible rfl))
            try simp only [Act.put, List.getElem_toArray, List.getElem_cons_zero, List.getElem_cons_succ, List.setIfInBounds_toArray, List.set_cons_zero, List.set_cons_succ]
            refine wpAnyH_take (i := 4) (v := ?vr5) rfl (by kernel_rfl) (by kernel_rfl) (by kernel_rfl) (fun _ _ _ h => h) (Or.inl ⟨by kernel_rfl, ?yr5⟩) (by assumption) ?rr5
            case yr5 => (intro w hSw; (try dsimp only at hSw); obtain ⟨s1, s2⟩ := hSw; go_simp; (try with_reducible rfl))
            try simp only [Act.put, List.getElem_toArray, List.getElem_cons_zero, List.getElem_cons_succ, List.setIfInBounds_toArray, List.set_cons_zero, List.set_cons_succ]
            refine wpAnyH_take (i := 5) (v := ?vr6) rfl (by kernel_rfl) (by kernel_rfl) (by kernel_rfl) (fun _ _ _ h => h) (Or.inl ⟨by kernel_rfl, ?yr6⟩) (by assumption) ?rr6
            case yr6 => (intro w hSw; (try dsimp only at hSw); obtain ⟨s1, s2⟩ := hSw; go_simp; (try with_reducible rfl))
            try simp only [Act.put, List.getElem_toArray, List.getElem_cons_zero, List.getElem_cons_succ, List.setIfInBounds_toArray, List.set_cons_zero, List.set_cons_succ]
            refine wpAnyH_take (i := 6) (v := ?vr7) rfl (by kernel_rfl) (by kernel_rfl) (by kernel_rfl) (fun _ _ _ h => h) (Or.inl ⟨by kernel_rfl, ?yr7⟩) (by assumption) ?rr7
            case yr7 => (intro w hSw; (try dsimp only at hSw); obtain ⟨s1, s2⟩ := hSw; go_simp; (try with_reducible rfl))
            try simp only [Act.put, List.getElem_toArray, List.getElem_cons_zero, List.getElem_cons_succ, List.setIfInBounds_toArray, List.set_cons_zero, List.set_cons_succ]
            refine wpAnyH_take (i := 7) (v := ?vr8) rfl (by kernel_rfl) (by kernel_rfl) (by kernel_rfl) (fun _ _ _ h => h) (Or.inl ⟨by kernel_rfl, ?yr8⟩) (by assumption) ?rr8
            case yr8 => (intro w hSw; (try dsimp only at hSw); obtain ⟨s1, s2⟩ := hSw; go_simp; (try with_reducible rfl))
            try simp only [Act.put, List.getElem_toArray, List.getElem_cons_zero, List.getElem_cons_succ, List.setIfInBounds_toArray, List.set_cons_zero, List.set_cons_succ]
            refine wpAnyH_take (i := 8) (v := ?vr9) rfl (by kernel_rfl) (by kernel_rfl) (by kernel_rfl) (fun _ _ _ h => h) (Or.inl ⟨by kernel_rfl, ?yr9⟩) (by assumption) ?rr9
            case yr9 => (intro w hSw; (try dsimp only at hSw); obtain ⟨s1, s2⟩ := hSw; go_simp; (try with_reducible rfl))
            try simp only [Act.put, List.getElem_toArray, List.getElem_cons_zero, List.getElem_cons_succ, List.setIfInBounds_toArray, List.set_cons_zero, List.set_cons_succ]
            refine wpAnyH_take (i := 9) (v := ?vr10) rfl (by kernel_rfl) (by kernel_rfl) (by kernel_rfl) (fun _ _ _ h => h) (Or.inl ⟨by kernel_rfl, ?yr10⟩) (by assumption) ?rr10
            case yr10 => (intro w hSw; (try dsimp only at hSw); obtain ⟨s1, s2⟩ := hSw; go_simp; (try with_reducible rfl))
            try simp only [Act.put, List.getElem_toArray, List.getElem_cons_zero, List.getElem_cons_succ, List.setIfInBounds_toArray, List.set_cons_zero, List.set_cons_succ]
            refine wpAnyH_take (i := 10) (v := ?vr11) rfl (by kernel_rfl) (by kernel_rfl) (by kernel_rfl) (fun _ _ _ h => h) (Or.inl ⟨by kernel_rfl, ?yr11⟩) (by assumption) ?rr11
            case yr11 => (intro w hSw; (try dsimp only at hSw); obtain ⟨s1, s2⟩ := hSw; go_simp; (try with_reducible rfl))
            try simp only [Act.put, List.getElem_toArray, List.getElem_cons_zero, List.getElem_cons_succ, List.setIfInBounds_toArray, List.set_cons_zero, List.set_cons_succ]
            refine wpAnyH_take (i := 11) (v := ?vr12) rfl (by kernel_rfl) (by kernel_rfl) (by kernel_rfl) (fun _ _ _ h => h) (Or.inl ⟨by kernel_rfl, ?yr12⟩) (by assumption) ?rr12
            case yr12 => (intro w hSw; (try dsimp only at hSw); obtain ⟨s1, s2⟩ := hSw; go_simp; (try with_reducible rfl))
            try simp only [Act.put, List.getElem_toArray, List.getElem_cons_zero, List.getElem_cons_succ, List.setIfInBounds_toArray, List.set_cons_zero, List.set_cons_succ]
            refine wpAnyH_take (i := 12) (v := ?vr13) rfl (by kernel_rfl) (by kernel_rfl) (by kernel_rfl) (fun _ _ _ h => h) (Or.inl ⟨by kernel_rfl, ?yr13⟩) (by assumption) ?rr13
            case yr13 => (intro w hSw; (try dsimp only at hSw); obtain ⟨s1, s2⟩ := hSw; go_simp; (try with_reducible rfl))
            try simp only [Act.put, List.getElem_toArray, List.getElem_cons_zero, List.getElem_cons_succ, List.setIfInBounds_toArray, List.set_cons_zero, List.set_cons_succ]
            refine wpAnyH_take (i := 13) (v := ?vr14) rfl (by kernel_rfl) (by kernel_rfl) (by kernel_rfl) (fun _ _ _ h => h) (Or.inl ⟨by kernel_rfl, ?yr14⟩) (by assumption) ?rr14
            case yr14 => (intro w hSw; (try dsimp only at hSw); obtain ⟨s1, s2⟩ := hSw; go_simp; (try with_reducible rfl))
            try simp only [Act.put, List.getElem_toArray, List.getElem_cons_zero, List.getElem_cons_succ, List.setIfInBounds_toArray, List.set_cons_zero, List.set_cons_succ]
            refine wpAnyH_take (i := 14) (v := ?vr15) rfl (by kernel_rfl) (by kernel_rfl) (by kernel_rfl) (fun _ _ _ h => h) (Or.inl ⟨by kernel_rfl, ?yr15⟩) (by assumption) ?rr15
            case yr15 => (intro w hSw; (try dsimp only at hSw); obtain ⟨s1, s2⟩ := hSw; go_simp; (try with_reducible rfl))
            try simp only [Act.put, List.getElem_toArray, List.getElem_cons_zero, List.getElem_cons_succ, List.setIfInBounds_toArray, List.set_cons_zero, List.set_cons_succ]
            refine wpAnyH_ready (rs := [15]) (by kernel_rfl) (by simp) ?_
            refine AllReadyH.cons rfl (fun K hK => ?_) AllReadyH.nil
            rw [if_pos (by rfl)]
            refine wp_store_mid 42 (.tmp 51) (.tmp 50) rfl w1.heap.size (k * 2) #[.slice Au p.1.length cu, .slice Av p.2.length cv] rfl rfl (HMd.out.1.there hlt) info42s (by simp [Value.oneCell']) ?_
            have HM6 := Lib.hid (HMd.out.1.step hlt hg HMd.out.2.1 HMd.out.2.2)
            refine hK.out _ _ (apart3 (HCC.out _ (Below.refl _ _).drew) hbne) (fun hHeld => ?_)
            clear hK K hHeld
            refine wpAnyH_done (by kernel_rfl) ?_ _
            clear HCC ew ew2 f0 f1 f2 f3 f4 f5
            go_wp2
            go_roundw
            case rel => exact ⟨k + 1, by omega, by go_num, HM6⟩
            case measure => simp [intOf]; omega
          · obtain rfl : k = (pairUp ri).length := by omega
            have HP := Lib.hid (HMk.out.fin rfl)
            have HB := Lib.hid (B1.out.trans (HMk.out.bl.mono B1.out.size))
            have K := Lib.hid (rightC _ (pairUp ri) (pairUp ri).length wr HP.out (Nat.le_refl _) (by unfold maxLen; omega) (by omega))
            clear HMk
            cases hq : decide (RightM (pairUp ri)) with
            | true =>
              obtain ⟨e1, e2⟩ := HFin.out true hq.symm
              rw [hq] at K
              have e1' : E = 0 := e1
              have e2' : L = pairUp ri := e2
              subst e1' e2'
              clear e1 e2 hq HFin
              go_wp2_with fail
              (with_reducible refine K.out.mono ?_)
              clear K
              rintro e w4 ⟨rfl, hb⟩
              have HF : Hid (Prs w4 w4.heap.size (some ⟨w1.heap.size, 0, none⟩) (pairUp ri).length (pairUp ri) ∧ Below w.heap.size w w4) := ⟨HP.out.on hb, HB.out.trans (hb.mono HB.out.size)⟩
              clear hb
              go_wp2
              go_ret2
              exact ⟨_, _, rfl, Nat.le_refl _, by unfold maxLen; omega, HF.out.1, HF.out.2⟩
            | false =>
              obtain ⟨e1, e2⟩ := HFin.out false hq.symm
              rw [hq] at K
              have e1' : E = 111 := e1
              have e2' : L = [] := e2
              subst e1' e2'
              clear e1 e2 hq HFin
              go_wp2_with fail
              (with_reducible refine K.out.mono ?_)
              clear K
              rintro e w4 ⟨rfl, hb⟩
              have HF := Lib.hid (HB.out.trans (hb.mono HB.out.size))
              clear hb
              go_wp2
              go_ret2
              exact .none _ _ _ HF.out
      · have hno := rdE_no h1 (fun hx => h3 hx.2.1)
        rw [hno.1, hno.2]
        have hev : ((rowI b).length : Int) % 2 = 1 := by omega
        have hne : ((b.length : Int) != (b.length : Int)) = false := by simp
        clear h1 h2 h3 hT hpl hno
        generalize rowI b = ri at *
        go_enter Try.func16, Try.ntmps16
        go_wp2_with fail
        (with_reducible refine K.out.mono ?_)
        clear K
        rintro e w1 ⟨v, rfl, hG, hb⟩
        obtain ⟨A1, c1, rfl, g1, g2, _⟩ := hG.grid
        have B1 := Lib.hid hb
        unfold maxLen at g2
        clear hG hb
        go_wp2
        go_ret2
        exact .none _ _ _ B1.out
    · have hno := rdE_no h1 (fun hx => h2 hx.1)
      rw [hno.1, hno.2]
      have hT : (rowT b != (b.length : Int)) = true := by simpa using h2
      clear h1 h2 hpl hno
      generalize rowI b = ri at *
      generalize rowT b = T at *
      go_enter Try.func16, Try.ntmps16
      go_wp2_with fail
      (with_reducible refine K.out.mono ?_)
      clear K
      rintro e w1 ⟨v, rfl, hG, hb⟩
      obtain ⟨A1, c1, rfl, g1, g2, _⟩ := hG.grid
      have B1 := Lib.hid hb
      unfold maxLen at g2
      clear hG hb
      go_wp2
      go_ret2
      exact .none _ _ _ B1.out
  · have hno := rdE_err h1
    rw [hno.1, hno.2]
    have hE : (rowE b 0 != 0) = true := by simpa using h1
    clear h1 hno
    generalize rowE b 0 = E at *
    generalize roL b 0 = ri at *
    generalize roT b 0 = T at *
    go_enter Try.func16, Try.ntmps16
    go_wp2_with fail
    (with_reducible refine K.out.mono ?_)
    clear K
    rintro e w1 ⟨v, rfl, hG, hb⟩
    obtain ⟨A1, c1, rfl, g1, g2, _⟩ := hG.grid
    have B1 := Lib.hid hb
    unfold maxLen at g2
    clear hG hb
    go_wp2
    go_ret2
    exact .none _ _ _ B1.out
end Go.Proofs.Ytfcoccmbabmihaa
