/- What the document has Read return. Conditions: what is read lies in memory. -/
import Derived.Test.YtfcoccmbabmihaaTr
namespace Go.Proofs.Ytfcoccmbabmihaa
open Go.RowKit
set_option linter.unusedSimpArgs false
set_option linter.unusedVariables false

set_option maxHeartbeats 3200000 in
theorem refReadC (A : Option Addr) (b : List Int) (c : Nat) (w : World) (hs : SB w w.heap.size (.slice A b.length c) b) :
    Calls Try.prog 17 #[.slice A b.length c] w (PutOk w (rdL b) (rdE b)) := by
  obtain ⟨_, _, e0, hbc, hcm, hl, hby⟩ := hs
  injection e0 with e1 _ e2
  subst e1 e2
  have hcm' := hcm
  have K := Lib.hid (refRowB A b c 0 w hbc hcm' hl hby)
  have HY := Lib.hid (row_byt hby)
  clear hl hby
  unfold maxLen at hcm
  by_cases h1 : rowE b 0 = 0
  · have hro : roL b 0 = rowI b := if_pos h1
    have hrt : roT b 0 = rowT b := if_pos h1
    have hsm := pairUp_sml h1
    rw [hro, hrt, h1] at K
    have HSm := Lib.hid hsm.1
    have hn := hsm.2
    have hpl := pairUp_len (rowI b)
    clear hro hrt hsm
    by_cases h2 : rowT b = (b.length : Int)
    · have hT : (rowT b != (b.length : Int)) = false := by simpa using h2
      rw [h2] at K
      by_cases h3 : (rowI b).length % 2 = 0
      · have hev : ((rowI b).length : Int) % 2 = 0 := by omega
        have HDV := Lib.hid hpl
        have hdv2 : (rowI b).length = (pairUp (rowI b)).length * 2 := by rw [hpl]; omega
        have HDV2 := Lib.hid hdv2
        have HFin : Hid (∀ q : Bool, q = decide (RightM (pairUp (rowI b))) → (rdE b = if q then 0 else 111) ∧ rdL b = if q then pairUp (rowI b) else []) := by
          intro q hq
          cases q with
          | true => exact rdE_yes h1 h2 h3 (of_decide_eq_true hq.symm)
          | false => exact rdE_no h1 fun hx => of_decide_eq_false hq.symm hx.2.2
        have hne : ((b.length : Int) != (b.length : Int)) = false := by simp
        clear h1 h2 h3 hT hpl hdv2
        generalize rdE b = E at *
        generalize rdL b = L at *
        generalize rowI b = ri at *
        go_enter Try.func17, Try.ntmps17
        go_wp2_with fail
        (with_reducible refine K.out.mono ?_)
        clear K
        rintro e w1 ⟨v, rfl, hG, hb⟩
        obtain ⟨A1, c1, rfl, g1, g2, _⟩ := hG.grid
        have HG := Lib.hid hG
        have B1 := Lib.hid hb
        have hw1 : w1.heap.size ≤ w1.heap.size := Nat.le_refl _
        unfold maxLen at g2
        have HR : Hid (Dst w1 w1.heap.size w1.heap.size (.slice none 0 0) ((pairUp ri).take 0) ∧ Below w1.heap.size w1 w1) := ⟨⟨[], .nil, .inl (by simpa using World.ownsRow_nil w1 w1.heap.size 42 2)⟩, Below.refl _ _⟩
        have hpn : (pairUp ri).length ≤ 512 := by rw [HDV.out]; omega
        clear hG hb
        go_wp2
        clear hev
        go_loopw [7, 8] (fun v i wr => ∃ k : Nat, k ≤ (pairUp ri).length ∧ i = .int .i64 (2 * (k : Int)) ∧ Hid (Dst wr w1.heap.size w1.heap.size v ((pairUp ri).take k) ∧ Below w1.heap.size w1 wr)) (fun _ i _ => (2 * (pairUp ri).length - (intOf i).toNat))
        case atStart => exact ⟨0, Nat.zero_le _, rfl, HR⟩
        case round =>
          clear HR
          obtain ⟨k, hk, rfl, HR⟩ := hrel
          by_cases hlt : k < (pairUp ri).length
          · have hg : (pairUp ri)[k]? = some (pairUp ri)[k] := List.getElem?_eq_getElem hlt
            generalize (pairUp ri)[k] = p at hg
            obtain ⟨x1, x2⟩ := pairUp_get ri hg
            have hi2 : k * 2 + 1 < ri.length := (List.getElem?_eq_some_iff.1 x2).1
            obtain ⟨bb, cc, hv, _, _, hbw, hcells⟩ := HG.out.cells HY.out (by omega)
            injection hv with hv z1 hv2
            clear z1
            subst hv hv2
            obtain ⟨u, hu, su⟩ := hcells _ _ x1
            obtain ⟨u', hu', su'⟩ := hcells _ _ x2
            have HLT : Hid (((pairUp ri).take k).length ≤ 512) := by show _ ≤ _; rw [List.length_take]; omega
            have HS2 : Hid (∀ w', Below w1.heap.size w1 w' → SB w' w1.heap.size u p.1 ∧ SB w' w1.heap.size u' p.2) := fun w' hb => ⟨su.below hb, su'.below hb⟩
            obtain ⟨Au, cu, rfl, _⟩ := su
            obtain ⟨Av, cv, rfl, _⟩ := su'
            have HC1 : Hid (∀ w', Below w1.heap.size w1 w' → w'.cell? ⟨bb, 2 * k, none⟩ = some (.slice Au p.1.length cu) ∧ w'.cell? ⟨bb, 2 * k + 1, none⟩ = some (.slice Av p.2.length cv)) := fun w' hb => by
              rw [show 2 * k = k * 2 by omega]
              exact ⟨by rw [hb.cell (by exact hbw)]; exact hu, by rw [hb.cell (by exact hbw)]; exact hu'⟩
            have HCC : Hid (∀ w', Below wr.heap.size wr w' → w'.cell? ⟨bb, 2 * k, none⟩ = some (.slice Au p.1.length cu) ∧ w'.cell? ⟨bb, 2 * k + 1, none⟩ = some (.slice Av p.2.length cv)) := fun w' hb => HC1.out w' (HR.out.2.trans (hb.mono HR.out.2.size))
            have ew2 : IntKind.i64.wrap (2 * (k : Int) + 1) = 2 * (k : Int) + 1 := IntWalk.i64_in _ (by omega)
            have f0 : (0 : Int) ≤ 2 * (k : Int) := by omega
            have f1 : (0 : Int) ≤ 2 * (k : Int) + 1 := by omega
            have f2 : 2 * (k : Int) < (ri.length : Int) := by omega
            have f3 : 2 * (k : Int) + 1 < (ri.length : Int) := by omega
            have f4 : (2 * (k : Int)).toNat = 2 * k := by omega
            have f5 : (2 * (k : Int) + 1).toNat = 2 * k + 1 := by omega
            clear x1 x2 hu hu' hcells
            go_wp2_with fail
            refine wp_region_held_drew (S := fun w' => w'.cell? ⟨bb, 2 * k, none⟩ = some (.slice Au p.1.length cu) ∧ w'.cell? ⟨bb, 2 * k + 1, none⟩ = some (.slice Av p.2.length cv)) (by kernel_rfl) (HCC.out _ (Below.refl _ _).drew) (fun hHeld => ?_)
            refine wpAnyH_take (i := 0) (v := ?vq1) rfl (by kernel_rfl) (by kernel_rfl) (by kernel_rfl) (fun _ _ _ h => h) (Or.inl ⟨by kernel_rfl, ?yq1⟩) (by assumption) ?rq1
            case yq1 => (intro w hSw; (try dsimp only at hSw); obtain ⟨s1, s2⟩ := hSw; go_simp; (try with_reducible rfl))
            try simp only [Act.put, List.getElem_toArray, List.getElem_cons_zero, List.getElem_cons_succ, List.setIfInBounds_toArray, List.set_cons_zero, List.set_cons_succ]
            refine wpAnyH_take (i := 1) (v := ?vq2) rfl (by kernel_rfl) (by kernel_rfl) (by kernel_rfl) (fun _ _ _ h => h) (Or.inl ⟨by kernel_rfl, ?yq2⟩) (by assumption) ?rq2
            case yq2 => (intro w hSw; (try dsimp only at hSw); obtain ⟨s1, s2⟩ := hSw; go_simp; (try with_reducible rfl))
            try simp only [Act.put, List.getElem_toArray, List.getElem_cons_zero, List.getElem_cons_succ, List.setIfInBounds_toArray, List.set_cons_zero, List.set_cons_succ]
            refine wpAnyH_take (i := 2) (v := ?vq3) rfl (by kernel_rfl) (by kernel_rfl) (by kernel_rfl) (fun _ _ _ h => h) (Or.inl ⟨by kernel_rfl, ?yq3⟩) (by assumption) ?rq3
            case yq3 => (intro w hSw; (try dsimp only at hSw); obtain ⟨s1, s2⟩ := hSw; go_simp; (try with_reducible rfl))
            try simp only [Act.put, List.getElem_toArray, List.getElem_cons_zero, List.getElem_cons_succ, List.setIfInBounds_toArray, List.set_cons_zero, List.set_cons_succ]
            refine wpAnyH_take (i := 3) (v := ?vq4) rfl (by kernel_rfl) (by kernel_rfl) (by kernel_rfl) (fun _ _ _ h => h) (Or.inl ⟨by kernel_rfl, ?yq4⟩) (by assumption) ?rq4
            case yq4 => (intro w hSw; (try dsimp only at hSw); obtain ⟨s1, s2⟩ := hSw; go_simp; (try with_reducible rfl))
            try simp only [Act.put, List.getElem_toArray, List.getElem_cons_zero, List.getElem_cons_succ, List.setIfInBounds_toArray, List.set_cons_zero, List.set_cons_succ]
            refine wpAnyH_take (i := 4) (v := ?vq5) rfl (by kernel_rfl) (by kernel_rfl) (by kernel_rfl) (fun _ _ _ h => h) (Or.inl ⟨by kernel_rfl, ?yq5⟩) (by assumption) ?rq5
            case yq5 => (intro w hSw; (try dsimp only at hSw); obtain ⟨s1, s2⟩ := hSw; go_simp; (try with_reducible rfl))
            try simp only [Act.put, List.getElem_toArray, List.getElem_cons_zero, List.getElem_cons_succ, List.setIfInBounds_toArray, List.set_cons_zero, List.set_cons_succ]
            refine wpAnyH_take (i := 5) (v := ?vq6) rfl (by kernel_rfl) (by kernel_rfl) (by kernel_rfl) (fun _ _ _ h => h) (Or.inl ⟨by kernel_rfl, ?yq6⟩) (by assumption) ?rq6
            case yq6 => (intro w hSw; (try dsimp only at hSw); obtain ⟨s1, s2⟩ := hSw; go_simp; (try with_reducible rfl))
            try simp only [Act.put, List.getElem_toArray, List.getElem_cons_zero, List.getElem_cons_succ, List.setIfInBounds_toArray, List.set_cons_zero, List.set_cons_succ]
            refine wpAnyH_take (i := 6) (v := ?vq7) rfl (by kernel_rfl) (by kernel_rfl) (by kernel_rfl) (fun _ _ _ h => h) (Or.inl ⟨by kernel_rfl, ?yq7⟩) (by assumption) ?rq7
            case yq7 => (intro w hSw; (try dsimp only at hSw); obtain ⟨s1, s2⟩ := hSw; go_simp; (try with_reducible rfl))
            try simp only [Act.put, List.getElem_toArray, List.getElem_cons_zero, List.getElem_cons_succ, List.setIfInBounds_toArray, List.set_cons_zero, List.set_cons_succ]
            refine wpAnyH_take (i := 7) (v := ?vq8) rfl (by kernel_rfl) (by kernel_rfl) (by kernel_rfl) (fun _ _ _ h => h) (Or.inl ⟨by kernel_rfl, ?yq8⟩) (by assumption) ?rq8
            case yq8 => (intro w hSw; (try dsimp only at hSw); obtain ⟨s1, s2⟩ := hSw; go_simp; (try with_reducible rfl))
            try simp only [Act.put, List.getElem_toArray, List.getElem_cons_zero, List.getElem_cons_succ, List.setIfInBounds_toArray, List.set_cons_zero, List.set_cons_succ]
            refine wpAnyH_take (i := 8) (v := ?vq9) rfl (by kernel_rfl) (by kernel_rfl) (by kernel_rfl) (fun _ _ _ h => h) (Or.inl ⟨by kernel_rfl, ?yq9⟩) (by assumption) ?rq9
            case yq9 => (intro w hSw; (try dsimp only at hSw); obtain ⟨s1, s2⟩ := hSw; go_simp; (try with_reducible rfl))
            try simp only [Act.put, List.getElem_toArray, List.getElem_cons_zero, List.getElem_cons_succ, List.setIfInBounds_toArray, List.set_cons_zero, List.set_cons_succ]
            refine wpAnyH_take (i := 9) (v := ?vq10) rfl (by kernel_rfl) (by kernel_rfl) (by kernel_rfl) (fun _ _ _ h => h) (Or.inl ⟨by kernel_rfl, ?yq10⟩) (by assumption) ?rq10
            case yq10 => (intro w hSw; (try dsimp only at hSw); obtain ⟨s1, s2⟩ := hSw; go_simp; (try with_reducible rfl))
            try simp only [Act.put, List.getElem_toArray, List.getElem_cons_zero, List.getElem_cons_succ, List.setIfInBounds_toArray, List.set_cons_zero, List.set_cons_succ]
            refine wpAnyH_take (i := 10) (v := ?vq11) rfl (by kernel_rfl) (by kernel_rfl) (by kernel_rfl) (fun _ _ _ h => h) (Or.inl ⟨by kernel_rfl, ?yq11⟩) (by assumption) ?rq11
            case yq11 => (intro w hSw; (try dsimp only at hSw); obtain ⟨s1, s2⟩ := hSw; go_simp; (try with_reducible rfl))
            try simp only [Act.put, List.getElem_toArray, List.getElem_cons_zero, List.getElem_cons_succ, List.setIfInBounds_toArray, List.set_cons_zero, List.set_cons_succ]
            refine wpAnyH_ready (rs := [11]) (by kernel_rfl) (by simp) ?_
            refine AllReadyH.cons rfl (fun K hK => ?_) AllReadyH.nil
            go_simp
            have hb5 : Below wr.heap.size wr (wr.alloc (.cells #[.slice Au p.1.length cu, .slice Av p.2.length cv] 42)).drew := (below_alloc wr _).drew
            have HB5 := Lib.hid hb5
            have HD5 := Lib.hid (HR.out.1.on hb5 (Nat.le_trans hw1 HR.out.2.size))
            have HX : Hid (Src (wr.alloc (.cells #[.slice Au p.1.length cu, .slice Av p.2.length cv] 42)).drew w1.heap.size (some ⟨wr.heap.size, 0, none⟩) 1 [p]) := by
              refine ⟨wr.heap.size + 1, [.slice Au p.1.length cu, .slice Av p.2.length cv], ⟨(fun e => by cases e), fun j x hx => ⟨_, rfl, by simp, ?_⟩⟩, .cons (HS2.out _ (HR.out.2.trans (hb5.mono HR.out.2.size))).1 (HS2.out _ (HR.out.2.trans (hb5.mono HR.out.2.size))).2 .nil⟩
              rw [Addr.add_mid, Nat.zero_add, cell_of_row _ wr.heap.size _ _ _ _ (show (wr.alloc (.cells #[.slice Au p.1.length cu, .slice Av p.2.length cv] 42)).drew.heap[wr.heap.size]? = _ from heap_alloc_new wr _)]
              simpa using hx
            clear hb5
            refine hK.out _ _ (HCC.out _ HB5.out) (fun hHeld => ?_)
            clear hK K
            generalize (wr.alloc (.cells #[.slice Au p.1.length cu, .slice Av p.2.length cv] 42)).drew = w5 at *
            refine wpAnyH_ready (rs := [12]) (by kernel_rfl) (by simp) ?_
            refine AllReadyH.cons rfl (fun K hK => ?_) AllReadyH.nil
            rw [if_pos (by rfl)]
            refine HD5.out.wp (Nat.le_refl _) (by have := HB5.out.size; have := HR.out.2.size; omega) (.tmp 35) (.tmp 46) rfl rfl rfl HX.out rfl (by have := HLT.out; simp; omega) ?_
            intro v6 w6 hD6 hb6
            have HR6 : Hid (Dst w6 w1.heap.size w1.heap.size v6 ((pairUp ri).take (k + 1)) ∧ Below w1.heap.size w1 w6) := ⟨by rw [take_next hg]; exact hD6, (HR.out.2.trans (HB5.out.mono HR.out.2.size)).trans hb6⟩
            refine hK.out _ _ (HC1.out _ HR6.out.2) (fun hHeld => ?_)
            clear hK K hD6 hb6
            try simp only [Act.put, List.getElem_toArray, List.getElem_cons_zero, List.getElem_cons_succ, List.setIfInBounds_toArray, List.set_cons_zero, List.set_cons_succ]
            refine wpAnyH_take (i := 13) (v := ?vq12) rfl (by kernel_rfl) (by kernel_rfl) (by kernel_rfl) (fun _ _ _ h => h) (Or.inl ⟨by kernel_rfl, ?yq12⟩) (by assumption) ?rq12
            case yq12 => (intro w hSw; (try dsimp only at hSw); obtain ⟨s1, s2⟩ := hSw; go_simp; (try with_reducible rfl))
            try simp only [Act.put, List.getElem_toArray, List.getElem_cons_zero, List.getElem_cons_succ, List.setIfInBounds_toArray, List.set_cons_zero, List.set_cons_succ]
            refine wpAnyH_done (by kernel_rfl) ?_ _
            clear HCC HC1 ew2 f0 f1 f2 f3 f4 f5
            go_wp2
            go_roundw
            case rel => exact ⟨k + 1, by omega, by go_num, HR6⟩
            case measure => simp [intOf]; omega
          · obtain rfl : k = (pairUp ri).length := by omega
            have hge : (ri.length : Int) ≤ 2 * ((pairUp ri).length : Int) := by have := HDV2.out; omega
            have hD := HR.out.1
            rw [List.take_length] at hD
            obtain ⟨A3, c3, rfl, k1, k2, k3⟩ := hD.prs HR.out.2.size (by omega)
            have HP : Hid ((pairUp ri).length ≤ c3 ∧ c3 ≤ maxLen ∧ Prs wr wr.heap.size A3 c3 (pairUp ri)) := ⟨k1, k2, k3⟩
            have HB := Lib.hid (B1.out.trans (HR.out.2.mono B1.out.size))
            have K := Lib.hid (refRightC A3 (pairUp ri) c3 wr k3 k1 k2 (by omega))
            clear HR hD k1 k2 k3
            cases hq : decide (RightM (pairUp ri)) with
            | true =>
              obtain ⟨e1, e2⟩ := HFin.out true hq.symm
              rw [hq] at K
              have e1' : E = 0 := e1
              have e2' : L = pairUp ri := e2
              subst e1' e2'
              clear e1 e2 hq HFin
              go_wp2_with fail
              (with_reducible refine K.out.mono ?_)
              clear K
              rintro e w4 ⟨rfl, hb⟩
              have HF : Hid (Prs w4 w4.heap.size A3 c3 (pairUp ri) ∧ Below w.heap.size w w4) := ⟨HP.out.2.2.on hb, HB.out.trans (hb.mono HB.out.size)⟩
              clear hb
              go_wp2
              go_ret2
              exact ⟨_, _, rfl, HP.out.1, HP.out.2.1, HF.out.1, HF.out.2⟩
            | false =>
              obtain ⟨e1, e2⟩ := HFin.out false hq.symm
              rw [hq] at K
              have e1' : E = 111 := e1
              have e2' : L = [] := e2
              subst e1' e2'
              clear e1 e2 hq HFin
              go_wp2_with fail
              (with_reducible refine K.out.mono ?_)
              clear K
              rintro e w4 ⟨rfl, hb⟩
              have HF := Lib.hid (HB.out.trans (hb.mono HB.out.size))
              clear hb
              go_wp2
              go_ret2
              exact .none _ _ _ HF.out
      · have hno := rdE_no h1 (fun hx => h3 hx.2.1)
        rw [hno.1, hno.2]
        have hev : ((rowI b).length : Int) % 2 = 1 := by omega
        have hne : ((b.length : Int) != (b.length : Int)) = false := by simp
        clear h1 h2 h3 hT hpl hno
        generalize rowI b = ri at *
        go_enter Try.func17, Try.ntmps17
        go_wp2_with fail
        (with_reducible refine K.out.mono ?_)
        clear K
        rintro e w1 ⟨v, rfl, hG, hb⟩
        obtain ⟨A1, c1, rfl, g1, g2, _⟩ := hG.grid
        have B1 := Lib.hid hb
        unfold maxLen at g2
        clear hG hb
        go_wp2
        go_ret2
        exact .none _ _ _ B1.out
    · have hno := rdE_no h1 (fun hx => h2 hx.1)
      rw [hno.1, hno.2]
      have hT : (rowT b != (b.length : Int)) = true := by simpa using h2
      clear h1 h2 hpl hno
      generalize rowI b = ri at *
      generalize rowT b = T at *
      go_enter Try.func17, Try.ntmps17
      go_wp2_with fail
      (with_reducible refine K.out.mono ?_)
      clear K
      rintro e w1 ⟨v, rfl, hG, hb⟩
      obtain ⟨A1, c1, rfl, g1, g2, _⟩ := hG.grid
      have B1 := Lib.hid hb
      unfold maxLen at g2
      clear hG hb
      go_wp2
      go_ret2
      exact .none _ _ _ B1.out
  · have hno := rdE_err h1
    rw [hno.1, hno.2]
    have hE : (rowE b 0 != 0) = true := by simpa using h1
    clear h1 hno
    generalize rowE b 0 = E at *
    generalize roL b 0 = ri at *
    generalize roT b 0 = T at *
    go_enter Try.func17, Try.ntmps17
    go_wp2_with fail
    (with_reducible refine K.out.mono ?_)
    clear K
    rintro e w1 ⟨v, rfl, hG, hb⟩
    obtain ⟨A1, c1, rfl, g1, g2, _⟩ := hG.grid
    have B1 := Lib.hid hb
    unfold maxLen at g2
    clear hG hb
    go_wp2
    go_ret2
    exact .none _ _ _ B1.out
end Go.Proofs.Ytfcoccmbabmihaa
