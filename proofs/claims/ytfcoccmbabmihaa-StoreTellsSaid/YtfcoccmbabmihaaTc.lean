/- The document's bytes of a row of pairs. Conditions: what is read lies in memory; a row is not longer than memory. -/
import Derived.Test.YtfcoccmbabmihaaTb
namespace Go.Proofs.Ytfcoccmbabmihaa
open Go.RowKit
set_option linter.unusedSimpArgs false
set_option linter.unusedVariables false

set_option maxHeartbeats 3200000 in
theorem refBytesC (A : Option Addr) (ls : List PR) (c : Nat) (w : World) (hp : Prs w w.heap.size A c ls) (hc : ls.length ≤ c) (hm : c ≤ maxLen) (hl : ls.length ≤ 2932031007402) :
    Calls Try.prog 15 #[.slice A ls.length c] w (PutBoth w (wrL ls) (wrE ls)) := by
  have K := Lib.hid (refRightC A ls c w hp hc hm hl)
  have HP := Lib.hid hp
  clear hp
  unfold maxLen at hm
  by_cases hr : RightM ls
  · have hd : decide (RightM ls) = true := by simpa using hr
    obtain ⟨hs, hl2⟩ := right_sml hr
    have hrow := right_row hr
    have hL : wrL ls = prL (rowM ls) := by unfold wrL prL; rw [if_pos hr, if_pos hrow]
    have hE : wrE ls = prE (rowM ls) := by unfold wrE prE; rw [if_pos hr, if_pos hrow]
    rw [hL, hE]
    rw [hd] at K
    have HRL := Lib.hid (rowM_len ls)
    clear hd hr hrow hL hE hs
    obtain ⟨i0, hi, hz0, hz1, hz2⟩ := info_parts info23
    obtain ⟨vs, hv1, hv2⟩ := HP.out
    have HV : Hid (Lies w w.heap.size A c vs ∧ PsC w w.heap.size ls vs) := ⟨hv1, hv2⟩
    clear hv1 hv2
    go_enter Try.func15, Try.ntmps15
    go_wp2_with fail
    (with_reducible refine K.out.mono ?_)
    clear K
    rintro e w1 ⟨rfl, hb⟩
    have HR : Hid (w1.ownsRow w.heap.size 23 1 (.slice none 0 0) (0 * 2) (vs.take (0 * 2)) ∧ Below w.heap.size w w1) := ⟨by simpa using World.ownsRow_nil w1 w.heap.size 23 1, hb⟩
    clear hb
    go_wp2
    go_loopw [5, 6] (fun v i wr => ∃ k : Nat, k ≤ ls.length ∧ i = .int .i64 k ∧ Hid (wr.ownsRow w.heap.size 23 1 v (k * 2) (vs.take (k * 2)) ∧ Below w.heap.size w wr)) (fun _ i _ => ls.length - (intOf i).toNat)
    case atStart => exact ⟨0, Nat.zero_le _, rfl, HR⟩
    case round =>
      clear HR
      obtain ⟨k, hk, rfl, HR⟩ := hrel
      by_cases hlt : k < ls.length
      · have hg : ls[k]? = some ls[k] := List.getElem?_eq_getElem hlt
        generalize ls[k] = p at hg
        obtain ⟨u, v', g1, g2, s1, s2⟩ := HV.out.2.get hg
        obtain ⟨Au, cu, rfl, _⟩ := s1
        obtain ⟨Av, cv, rfl, _⟩ := s2
        obtain ⟨ad, hA, hB, hc0⟩ := HV.out.1.2 _ _ g1
        obtain ⟨ad', hA', _, hc1⟩ := HV.out.1.2 _ _ g2
        have hst : ∃ b o, A = some ⟨b, o, none⟩ := by
          obtain ⟨b, o, _, _, h, _⟩ := HP.out.get hg
          exact ⟨b, o, h⟩
        obtain ⟨b, o, hst⟩ := hst
        subst hst
        injection hA with hA
        injection hA' with hA'
        subst hA hA'
        rw [Addr.add_mid] at hc0 hc1
        have HC : Hid (∀ w', Below w.heap.size w w' → w'.cell? ⟨b, o + k * 2, none⟩ = some (.slice Au p.1.length cu) ∧ w'.cell? ⟨b, o + k * 2 + 1, none⟩ = some (.slice Av p.2.length cv)) := fun w' hb => ⟨by rw [hb.cell (by exact hB)]; exact hc0, by rw [hb.cell (by exact hB)]; exact hc1⟩
        have HCC : Hid (∀ w', Below wr.heap.size wr w' → w'.cell? ⟨b, o + k * 2, none⟩ = some (.slice Au p.1.length cu) ∧ w'.cell? ⟨b, o + k * 2 + 1, none⟩ = some (.slice Av p.2.length cv)) := fun w' hb => HC.out w' (HR.out.2.trans (hb.mono HR.out.2.size))
        have HCG : Hid (∀ {w5 : World} (w6 : World), Below wr.heap.size wr w5 → w5.grownBy w6 u5.ownBlock → w5.ownsRow w.heap.size 23 1 u5 (k * 2) (vs.take (k * 2)) → w6.cell? ⟨b, o + k * 2, none⟩ = some (.slice Au p.1.length cu) ∧ w6.cell? ⟨b, o + k * 2 + 1, none⟩ = some (.slice Av p.2.length cv)) := fun w6 hb hg ho =>
          HC.out w6 ((HR.out.2.trans (hb.mono HR.out.2.size)).grown hg (by have := hb.size; have := HR.out.2.size; omega) (fun q hq => (ho.lt q hq).1))
        have HT := Lib.hid (take_two g1 g2)
        clear g1 g2 hc0 hc1 hB
        go_wp2_with fail
        refine wp_region_held_drew (S := fun w' => w'.cell? ⟨b, o + k * 2, none⟩ = some (.slice Au p.1.length cu) ∧ w'.cell? ⟨b, o + k * 2 + 1, none⟩ = some (.slice Av p.2.length cv)) (by kernel_rfl) (HCC.out _ (Below.refl _ _).drew) (fun hHeld => ?_)
        refine wpAnyH_take (i := 0) (v := ?vb1) rfl (by kernel_rfl) (by kernel_rfl) (by kernel_rfl) (fun _ _ _ h => h) (Or.inl ⟨by kernel_rfl, ?yb1⟩) (by assumption) ?rb1
        case yb1 => (intro w hSw; (try dsimp only at hSw); obtain ⟨s1, s2⟩ := hSw; go_simp; (try with_reducible rfl))
        try simp only [Act.put, List.getElem_toArray, List.getElem_cons_zero, List.getElem_cons_succ, List.setIfInBounds_toArray, List.set_cons_zero, List.set_cons_succ]
        refine wpAnyH_take (i := 1) (v := ?vb2) rfl (by kernel_rfl) (by kernel_rfl) (by kernel_rfl) (fun _ _ _ h => h) (Or.inl ⟨by kernel_rfl, ?yb2⟩) (by assumption) ?rb2
        case yb2 => (intro w hSw; (try dsimp only at hSw); obtain ⟨s1, s2⟩ := hSw; go_simp; (try with_reducible rfl))
        try simp only [Act.put, List.getElem_toArray, List.getElem_cons_zero, List.getElem_cons_succ, List.setIfInBounds_toArray, List.set_cons_zero, List.set_cons_succ]
        refine wpAnyH_take (i := 2) (v := ?vb3) rfl (by kernel_rfl) (by kernel_rfl) (by kernel_rfl) (fun _ _ _ h => h) (Or.inl ⟨by kernel_rfl, ?yb3⟩) (by assumption) ?rb3
        case yb3 => (intro w hSw; (try dsimp only at hSw); obtain ⟨s1, s2⟩ := hSw; go_simp; (try with_reducible rfl))
        try simp only [Act.put, List.getElem_toArray, List.getElem_cons_zero, List.getElem_cons_succ, List.setIfInBounds_toArray, List.set_cons_zero, List.set_cons_succ]
        refine wpAnyH_take (i := 3) (v := ?vb4) rfl (by kernel_rfl) (by kernel_rfl) (by kernel_rfl) (fun _ _ _ h => h) (Or.inl ⟨by kernel_rfl, ?yb4⟩) (by assumption) ?rb4
        case yb4 => (intro w hSw; (try dsimp only at hSw); obtain ⟨s1, s2⟩ := hSw; go_simp; (try with_reducible rfl))
        try simp only [Act.put, List.getElem_toArray, List.getElem_cons_zero, List.getElem_cons_succ, List.setIfInBounds_toArray, List.set_cons_zero, List.set_cons_succ]
        refine wpAnyH_take (i := 4) (v := ?vb5) rfl (by kernel_rfl) (by kernel_rfl) (by kernel_rfl) (fun _ _ _ h => h) (Or.inl ⟨by kernel_rfl, ?yb5⟩) (by assumption) ?rb5
        case yb5 => (intro w hSw; (try dsimp only at hSw); obtain ⟨s1, s2⟩ := hSw; go_simp; (try with_reducible rfl))
        try simp only [Act.put, List.getElem_toArray, List.getElem_cons_zero, List.getElem_cons_succ, List.setIfInBounds_toArray, List.set_cons_zero, List.set_cons_succ]
        refine wpAnyH_take (i := 5) (v := ?vb6) rfl (by kernel_rfl) (by kernel_rfl) (by kernel_rfl) (fun _ _ _ h => h) (Or.inl ⟨by kernel_rfl, ?yb6⟩) (by assumption) ?rb6
        case yb6 => (intro w hSw; (try dsimp only at hSw); obtain ⟨s1, s2⟩ := hSw; go_simp; (try with_reducible rfl))
        try simp only [Act.put, List.getElem_toArray, List.getElem_cons_zero, List.getElem_cons_succ, List.setIfInBounds_toArray, List.set_cons_zero, List.set_cons_succ]
        refine wpAnyH_take (i := 6) (v := ?vb7) rfl (by kernel_rfl) (by kernel_rfl) (by kernel_rfl) (fun _ _ _ h => h) (Or.inl ⟨by kernel_rfl, ?yb7⟩) (by assumption) ?rb7
        case yb7 => (intro w hSw; (try dsimp only at hSw); obtain ⟨s1, s2⟩ := hSw; go_simp; (try with_reducible rfl))
        try simp only [Act.put, List.getElem_toArray, List.getElem_cons_zero, List.getElem_cons_succ, List.setIfInBounds_toArray, List.set_cons_zero, List.set_cons_succ]
        refine wpAnyH_take (i := 7) (v := ?vb8) rfl (by kernel_rfl) (by kernel_rfl) (by kernel_rfl) (fun _ _ _ h => h) (Or.inl ⟨by kernel_rfl, ?yb8⟩) (by assumption) ?rb8
        case yb8 => (intro w hSw; (try dsimp only at hSw); obtain ⟨s1, s2⟩ := hSw; go_simp; (try with_reducible rfl))
        try simp only [Act.put, List.getElem_toArray, List.getElem_cons_zero, List.getElem_cons_succ, List.setIfInBounds_toArray, List.set_cons_zero, List.set_cons_succ]
        refine wpAnyH_take (i := 8) (v := ?vb9) rfl (by kernel_rfl) (by kernel_rfl) (by kernel_rfl) (fun _ _ _ h => h) (Or.inl ⟨by kernel_rfl, ?yb9⟩) (by assumption) ?rb9
        case yb9 => (intro w hSw; (try dsimp only at hSw); obtain ⟨s1, s2⟩ := hSw; go_simp; (try with_reducible rfl))
        try simp only [Act.put, List.getElem_toArray, List.getElem_cons_zero, List.getElem_cons_succ, List.setIfInBounds_toArray, List.set_cons_zero, List.set_cons_succ]
        refine wpAnyH_take (i := 9) (v := ?vb10) rfl (by kernel_rfl) (by kernel_rfl) (by kernel_rfl) (fun _ _ _ h => h) (Or.inl ⟨by kernel_rfl, ?yb10⟩) (by assumption) ?rb10
        case yb10 => (intro w hSw; (try dsimp only at hSw); obtain ⟨s1, s2⟩ := hSw; go_simp; (try with_reducible rfl))
        try simp only [Act.put, List.getElem_toArray, List.getElem_cons_zero, List.getElem_cons_succ, List.setIfInBounds_toArray, List.set_cons_zero, List.set_cons_succ]
        refine wpAnyH_take (i := 10) (v := ?vb11) rfl (by kernel_rfl) (by kernel_rfl) (by kernel_rfl) (fun _ _ _ h => h) (Or.inl ⟨by kernel_rfl, ?yb11⟩) (by assumption) ?rb11
        case yb11 => (intro w hSw; (try dsimp only at hSw); obtain ⟨s1, s2⟩ := hSw; go_simp; (try with_reducible rfl))
        try simp only [Act.put, List.getElem_toArray, List.getElem_cons_zero, List.getElem_cons_succ, List.setIfInBounds_toArray, List.set_cons_zero, List.set_cons_succ]
        refine wpAnyH_ready (rs := [11]) (by kernel_rfl) (by simp) ?_
        refine AllReadyH.cons rfl (fun K hK => ?_) AllReadyH.nil
        go_simp
        have hb5 : Below wr.heap.size wr (wr.alloc (.cells #[.slice Au p.1.length cu, .slice Av p.2.length cv] 23)).drew := (below_alloc wr _).drew
        have HB5 := Lib.hid hb5
        have HN : Hid (∀ (j : Nat) (x : Value), [Value.slice Au p.1.length cu, .slice Av p.2.length cv][j]? = some x → (wr.alloc (.cells #[.slice Au p.1.length cu, .slice Av p.2.length cv] 23)).drew.cell? ((Addr.mk wr.heap.size 0 none).add j) = some x) := fun j x hx => by
          rw [Addr.add_mid, Nat.zero_add, cell_of_row _ wr.heap.size _ _ _ _ (show (wr.alloc (.cells #[.slice Au p.1.length cu, .slice Av p.2.length cv] 23)).drew.heap[wr.heap.size]? = _ from heap_alloc_new wr _)]
          simpa using hx
        have HO5 := Lib.hid (own_belowS HR.out.1 hb5)
        have hsz5 : w.heap.size ≤ (wr.alloc (.cells #[.slice Au p.1.length cu, .slice Av p.2.length cv] 23)).drew.heap.size := Nat.le_trans HR.out.2.size hb5.size
        clear hb5
        refine hK.out _ _ (HCC.out _ HB5.out) (fun hHeld => ?_)
        clear hK K
        generalize (wr.alloc (.cells #[.slice Au p.1.length cu, .slice Av p.2.length cv] 23)).drew = w5 at *
        refine wpAnyH_ready (rs := [12]) (by kernel_rfl) (by simp) ?_
        refine AllReadyH.cons rfl (fun K hK => ?_) AllReadyH.nil
        rw [if_pos (by rfl)]
        refine wp_append_own2 w5 (.tmp 17) (.tmp 28) 52 rfl w.heap.size 23 i0 (.slice none 0 0) 1 24 Try.underlying52 hi hz0 hz1 hz2 rfl (by omega) u5 (k * 2) _ rfl HO5.out ⟨wr.heap.size, 0, none⟩ 2 2 [.slice Au p.1.length cu, .slice Av p.2.length cv] rfl rfl HN.out (by simp [Value.oneCell']) (by unfold maxLen; omega) (by omega) hsz5 ?_
        intro v6 w6 ho6 hg6
        have HR6 : Hid (w6.ownsRow w.heap.size 23 1 v6 ((k + 1) * 2) (vs.take ((k + 1) * 2)) ∧ Below w.heap.size w w6) := ⟨own_eq ho6 (by omega) HT.out.symm, (HR.out.2.trans (HB5.out.mono HR.out.2.size)).grown hg6 (by have := HB5.out.size; have := HR.out.2.size; omega) (fun q hq => (HO5.out.lt q hq).1)⟩
        refine hK.out _ _ (HCG.out w6 (HB5.out) hg6 (HO5.out)) (fun hHeld => ?_)
        clear hK K ho6 hg6
        try simp only [Act.put, List.getElem_toArray, List.getElem_cons_zero, List.getElem_cons_succ, List.setIfInBounds_toArray, List.set_cons_zero, List.set_cons_succ]
        refine wpAnyH_take (i := 13) (v := ?vb12) rfl (by kernel_rfl) (by kernel_rfl) (by kernel_rfl) (fun _ _ _ h => h) (Or.inl ⟨by kernel_rfl, ?yb12⟩) (by assumption) ?rb12
        case yb12 => (intro w hSw; (try dsimp only at hSw); obtain ⟨s1, s2⟩ := hSw; go_simp; (try with_reducible rfl))
        try simp only [Act.put, List.getElem_toArray, List.getElem_cons_zero, List.getElem_cons_succ, List.setIfInBounds_toArray, List.set_cons_zero, List.set_cons_succ]
        refine wpAnyH_done (by kernel_rfl) ?_ _
        clear hHeld HCC HCG
        go_wp2
        go_roundw
        case rel => exact ⟨k + 1, by omega, by go_num, HR6⟩
        case measure => simp [intOf]; omega
      · obtain rfl : k = ls.length := by omega
        have hvl : vs.length = ls.length * 2 := HV.out.2.len
        have ho := HR.out.1
        rw [List.take_of_length_le (by omega)] at ho
        obtain ⟨A3, c3, rfl, g1, g2, g3⟩ := own_lies ho
        have K3 := Lib.hid (refPutRowB A3 c3 (rowM ls) wr (((HV.out.2.low HR.out.2).more HR.out.2.size).grid g3))
        rw [HRL.out] at K3
        have HB := Lib.hid HR.out.2
        clear ho HR g1 g2 g3 hvl
        go_wp2_with fail
        (with_reducible refine K3.out.mono ?_)
        clear K3
        rintro e w7 ⟨v7, rfl, ho7, hb7⟩
        have HF : Hid (w7.ownsRow w.heap.size 5 1 v7 (prL (rowM ls)).length (cellsOf (prL (rowM ls))) ∧ Below w.heap.size w w7) := ⟨own_mono ho7 HB.out.size, HB.out.trans (hb7.mono HB.out.size)⟩
        clear ho7 hb7
        go_wp2
        go_ret2
        exact ⟨v7, rfl, HF.out⟩
  · have hd : decide (RightM ls) = false := by simpa using hr
    have hL : wrL ls = [] := if_neg hr
    have hE : wrE ls = 1 := if_neg hr
    rw [hL, hE]
    rw [hd] at K
    clear hd hr hL hE
    go_enter Try.func15, Try.ntmps15
    go_wp2_with fail
    (with_reducible refine K.out.mono ?_)
    clear K
    rintro e w1 ⟨rfl, hb⟩
    have B1 := Lib.hid hb
    clear hb
    go_wp2
    go_ret2
    exact ⟨_, rfl, World.ownsRow_nil _ _ _ _, B1.out⟩
end Go.Proofs.Ytfcoccmbabmihaa
