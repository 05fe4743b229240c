/- The walk of JournalOwn. Conditions: what came in lies in memory. -/
import Derived.Test.YtncbbjodianmoaaOc
namespace Go.Proofs.Ytncbbjodianmoaa
open Go.RowKit
set_option linter.unusedSimpArgs false
set_option linter.unusedVariables false

set_option maxRecDepth 100000 in
set_option maxHeartbeats 6400000 in
theorem ownC (W : World) (A : Option Addr) (ls : List PR) (c : Nat) (hp : Prs W W.heap.size A c ls) (hc : ls.length ≤ c) (hm : c ≤ maxLen) (hl : ls.length ≤ 2932031007402) (hin : ∀ p ∈ ls, p.1.length ≤ 140737488351232 ∧ p.2.length ≤ 140737488351232)
    (Ak : Option Addr) (key : List Int) (ck : Nat) (hk : SB W W.heap.size (.slice Ak key.length ck) key) (hkl : key.length ≤ 140737488351232) (Av0 : Option Addr) (val : List Int) (cv0 : Nat) (hv : SB W W.heap.size (.slice Av0 val.length cv0) val) (hvl : val.length ≤ 140737488351232) :
    Calls Try.prog 5 #[.slice A ls.length c, .slice Ak key.length ck, .slice Av0 val.length cv0] W fun e w' => e = .returned (.bool true) ∧ Below W.heap.size W w' := by
  have HP := Lib.hid hp
  have HK := Lib.hid hk
  have HV := Lib.hid hv
  have HIN := Lib.hid hin
  have K0 := Lib.hid (headC W)
  have hm' := hm
  clear hp hk hv hin
  unfold maxLen at hm
  obtain ⟨i0, hi, hz0, hz1, hz2⟩ := info_parts info42
  go_enter Try.func5, Try.ntmps5
  go_wp2_with fail
  (with_reducible refine K0.out.mono ?_)
  rintro e w1 ⟨rfl, hb1⟩
  have HB1 := Lib.hid hb1
  clear hb1 K0
  go_wp2_with fail
  go_loopw [8, 9] (fun m i wr => ∃ k : Nat, k ≤ ls.length ∧ i = .int .i64 k ∧ Hid (MkA w1 ls k m wr)) (fun _ i _ => ls.length - (intOf i).toNat)
  case atStart => exact ⟨0, Nat.zero_le _, rfl, [], World.ownsRow_nil _ _ _ _, by simp; exact .nil, Below.refl _ _⟩
  case round =>
    obtain ⟨k, hk, rfl, HMk⟩ := hrel
    by_cases hlt : k < ls.length
    · have hg : ls[k]? = some ls[k] := List.getElem?_eq_getElem hlt
      generalize ls[k] = p at hg
      have hB : Below W.heap.size W wr := HB1.out.trans (HMk.out.bl.mono HB1.out.size)
      have hP := HP.out.on hB
      obtain ⟨b, o, Au, cu, Av, cv, hA, c1, c2, s1, s2, q1, q2, q3, q4⟩ := hP.at hg
      have hBlt := World.block_lt_of_cell? wr _ c1
      subst hA
      have hsm := HIN.out p (List.mem_of_getElem? hg)
      have HG := Lib.hid hg
      have HY : Hid (Byt p.1 ∧ Byt p.2) := ⟨s1.byt, s2.byt⟩
      have HC : Hid (∀ w', Below wr.heap.size wr w' → w'.cell? ⟨b, o + k * 2, none⟩ = some (.slice Au p.1.length cu) ∧ w'.cell? ⟨b, o + k * 2 + 1, none⟩ = some (.slice Av p.2.length cv)) := fun w' hb =>
        ⟨by rw [hb.cell (p := ⟨b, o + k * 2, none⟩) hBlt]; exact c1, by rw [hb.cell (p := ⟨b, o + k * 2 + 1, none⟩) hBlt]; exact c2⟩
      have hrowW : b < w1.heap.size := by
        obtain ⟨b', o', _, _, _, _, hA', c1', _⟩ := HP.out.at hg
        injection hA' with hA'
        injection hA' with hA' _
        subst hA'
        exact Nat.lt_of_lt_of_le (World.block_lt_of_cell? W _ c1') HB1.out.size
      have HC7 : Hid (∀ wz w7, Below wr.heap.size wr wz → ∀ vs, wz.ownsRow w1.heap.size 47 2 u8 k vs → wz.grownBy w7 u8.ownBlock → w7.cell? ⟨b, o + k * 2, none⟩ = some (.slice Au p.1.length cu) ∧ w7.cell? ⟨b, o + k * 2 + 1, none⟩ = some (.slice Av p.2.length cv)) := fun wz w7 hb vs ho hg7 => by
        have hne : some b ≠ u8.ownBlock := fun e => by have := (ho.lt _ e.symm).1; omega
        exact ⟨hg7.cell (HC.out wz hb).1 hne, hg7.cell (HC.out wz hb).2 hne⟩
      have HL : Hid (∀ w', Below wr.heap.size wr w' → Lies w' w'.heap.size Au cu (cellsOf p.1) ∧ Lies w' w'.heap.size Av cv (cellsOf p.2)) := fun w' hb => by
        obtain ⟨_, _, e1, _, _, g1, _⟩ := s1.on hb
        obtain ⟨_, _, e2, _, _, g2, _⟩ := s2.on hb
        injection e1 with e1 _ e1'
        injection e2 with e2 _ e2'
        subst e1 e1' e2 e2'
        exact ⟨g1, g2⟩
      clear c1 c2 s1 s2 hP hg hB
      go_wp2_with fail
      have HBd : Hid (Below wr.heap.size wr wr.drew) := (Below.refl _ _).drew
      refine wp_region_held_drew (S := (fun w' => w'.cell? ⟨b, o + k * 2, none⟩ = some (.slice Au p.1.length cu) ∧ w'.cell? ⟨b, o + k * 2 + 1, none⟩ = some (.slice Av p.2.length cv))) (by kernel_rfl) (HC.out _ HBd.out) (fun hHeld => ?_)
      generalize wr.drew = wd at *
      refine wpAnyH_take (i := 0) (v := ?vt1) rfl (by kernel_rfl) (by kernel_rfl) (by kernel_rfl) (fun _ _ _ h => h) (Or.inl ⟨by kernel_rfl, ?yt1⟩) (by assumption) ?rt1
      case yt1 => (intro w hSw; (try dsimp only at hSw); obtain ⟨s1, s2⟩ := hSw; go_simp; (try with_reducible rfl))
      try simp only [Act.put, List.getElem_toArray, List.getElem_cons_zero, List.getElem_cons_succ, List.setIfInBounds_toArray, List.set_cons_zero, List.set_cons_succ]
      refine wpAnyH_take (i := 2) (v := ?vt2) rfl (by kernel_rfl) (by kernel_rfl) (by kernel_rfl) (fun _ _ _ h => h) (Or.inl ⟨by kernel_rfl, ?yt2⟩) (by assumption) ?rt2
      case yt2 => (intro w hSw; (try dsimp only at hSw); obtain ⟨s1, s2⟩ := hSw; go_simp; (try with_reducible rfl))
      try simp only [Act.put, List.getElem_toArray, List.getElem_cons_zero, List.getElem_cons_succ, List.setIfInBounds_toArray, List.set_cons_zero, List.set_cons_succ]
      refine wpAnyH_take (i := 3) (v := ?vt3) rfl (by kernel_rfl) (by kernel_rfl) (by kernel_rfl) (fun _ _ _ h => h) (Or.inl ⟨by kernel_rfl, ?yt3⟩) (by assumption) ?rt3
      case yt3 => (intro w hSw; (try dsimp only at hSw); obtain ⟨s1, s2⟩ := hSw; go_simp; (try with_reducible rfl))
      try simp only [Act.put, List.getElem_toArray, List.getElem_cons_zero, List.getElem_cons_succ, List.setIfInBounds_toArray, List.set_cons_zero, List.set_cons_succ]
      refine wpAnyH_take (i := 4) (v := ?vt4) rfl (by kernel_rfl) (by kernel_rfl) (by kernel_rfl) (fun _ _ _ h => h) (Or.inl ⟨by kernel_rfl, ?yt4⟩) (by assumption) ?rt4
      case yt4 => (intro w hSw; (try dsimp only at hSw); obtain ⟨s1, s2⟩ := hSw; go_simp; (try with_reducible rfl))
      try simp only [Act.put, List.getElem_toArray, List.getElem_cons_zero, List.getElem_cons_succ, List.setIfInBounds_toArray, List.set_cons_zero, List.set_cons_succ]
      refine wpAnyH_take (i := 5) (v := ?vt5) rfl (by kernel_rfl) (by kernel_rfl) (by kernel_rfl) (fun _ _ _ h => h) (Or.inl ⟨by kernel_rfl, ?yt5⟩) (by assumption) ?rt5
      case yt5 => (intro w hSw; (try dsimp only at hSw); obtain ⟨s1, s2⟩ := hSw; go_simp; (try with_reducible rfl))
      try simp only [Act.put, List.getElem_toArray, List.getElem_cons_zero, List.getElem_cons_succ, List.setIfInBounds_toArray, List.set_cons_zero, List.set_cons_succ]
      refine wpAnyH_take (i := 6) (v := ?vt6) rfl (by kernel_rfl) (by kernel_rfl) (by kernel_rfl) (fun _ _ _ h => h) (Or.inl ⟨by kernel_rfl, ?yt6⟩) (by assumption) ?rt6
      case yt6 => (intro w hSw; (try dsimp only at hSw); obtain ⟨s1, s2⟩ := hSw; go_simp; (try with_reducible rfl))
      try simp only [Act.put, List.getElem_toArray, List.getElem_cons_zero, List.getElem_cons_succ, List.setIfInBounds_toArray, List.set_cons_zero, List.set_cons_succ]
      refine wpAnyH_take (i := 9) (v := ?vt7) rfl (by kernel_rfl) (by kernel_rfl) (by kernel_rfl) (fun _ _ _ h => h) (Or.inl ⟨by kernel_rfl, ?yt7⟩) (by assumption) ?rt7
      case yt7 => (intro w hSw; (try dsimp only at hSw); obtain ⟨s1, s2⟩ := hSw; go_simp; (try with_reducible rfl))
      try simp only [Act.put, List.getElem_toArray, List.getElem_cons_zero, List.getElem_cons_succ, List.setIfInBounds_toArray, List.set_cons_zero, List.set_cons_succ]
      refine wpAnyH_take (i := 10) (v := ?vt8) rfl (by kernel_rfl) (by kernel_rfl) (by kernel_rfl) (fun _ _ _ h => h) (Or.inl ⟨by kernel_rfl, ?yt8⟩) (by assumption) ?rt8
      case yt8 => (intro w hSw; (try dsimp only at hSw); obtain ⟨s1, s2⟩ := hSw; go_simp; (try with_reducible rfl))
      try simp only [Act.put, List.getElem_toArray, List.getElem_cons_zero, List.getElem_cons_succ, List.setIfInBounds_toArray, List.set_cons_zero, List.set_cons_succ]
      refine wpAnyH_take (i := 11) (v := ?vt9) rfl (by kernel_rfl) (by kernel_rfl) (by kernel_rfl) (fun _ _ _ h => h) (Or.inl ⟨by kernel_rfl, ?yt9⟩) (by assumption) ?rt9
      case yt9 => (intro w hSw; (try dsimp only at hSw); obtain ⟨s1, s2⟩ := hSw; go_simp; (try with_reducible rfl))
      try simp only [Act.put, List.getElem_toArray, List.getElem_cons_zero, List.getElem_cons_succ, List.setIfInBounds_toArray, List.set_cons_zero, List.set_cons_succ]
      refine wpAnyH_take (i := 12) (v := ?vt10) rfl (by kernel_rfl) (by kernel_rfl) (by kernel_rfl) (fun _ _ _ h => h) (Or.inl ⟨by kernel_rfl, ?yt10⟩) (by assumption) ?rt10
      case yt10 => (intro w hSw; (try dsimp only at hSw); obtain ⟨s1, s2⟩ := hSw; go_simp; (try with_reducible rfl))
      try simp only [Act.put, List.getElem_toArray, List.getElem_cons_zero, List.getElem_cons_succ, List.setIfInBounds_toArray, List.set_cons_zero, List.set_cons_succ]
      refine wpAnyH_take (i := 13) (v := ?vt11) rfl (by kernel_rfl) (by kernel_rfl) (by kernel_rfl) (fun _ _ _ h => h) (Or.inl ⟨by kernel_rfl, ?yt11⟩) (by assumption) ?rt11
      case yt11 => (intro w hSw; (try dsimp only at hSw); obtain ⟨s1, s2⟩ := hSw; go_simp; (try with_reducible rfl))
      try simp only [Act.put, List.getElem_toArray, List.getElem_cons_zero, List.getElem_cons_succ, List.setIfInBounds_toArray, List.set_cons_zero, List.set_cons_succ]
      refine wpAnyH_ready (rs := [1, 8]) (by kernel_rfl) (by simp) ?_
      refine AllReadyH.cons rfl (fun K hK => ?_) (AllReadyH.cons rfl (fun K hK => ?_) AllReadyH.nil)
      · skip
        go_simp
        have hbx2 := below_alloc wd (.cells #[] 5)
        have HB2 : Hid (Below wr.heap.size wr (wd.alloc (.cells #[] 5))) := (HBd.out).trans (hbx2.mono (HBd.out).size)
        have HE2 : Hid (Emp w1.heap.size (wd.alloc (.cells #[] 5)) wd.heap.size) := ⟨Nat.le_trans HMk.out.bl.size (HBd.out).size, heap_alloc_new wd _⟩
        refine hK.out _ _ (HC.out _ HB2.out) (fun hHeld => ?_)
        clear hK K hbx2
        generalize wd.alloc (.cells #[] 5) = wn2 at *
        refine wpAnyH_ready (rs := [7, 8]) (by kernel_rfl) (by simp) ?_
        refine AllReadyH.cons rfl (fun K hK => ?_) (AllReadyH.cons rfl (fun K hK => ?_) AllReadyH.nil)
        · skip
          rw [if_pos (by rfl)]
          refine wp_app_empty (.tmp 32) (.tmp 37) rfl HE2.out rfl Au p.1 p.1.length cu rfl rfl (HL.out wn2 HB2.out).1 (by omega) ?_
          intro v4 wn4 ho4 hb4
          have HB4 : Hid (Below wr.heap.size wr wn4) := (HB2.out).trans (hb4.mono (HB2.out).size)
          obtain ⟨A4, c4, rfl, _⟩ := own_lies ho4
          have HO4 := Lib.hid ho4
          clear ho4 hb4
          refine hK.out _ _ (HC.out _ HB4.out) (fun hHeld => ?_)
          clear hK K
          refine wpAnyH_ready (rs := [8]) (by kernel_rfl) (by simp) ?_
          refine AllReadyH.cons rfl (fun K hK => ?_) AllReadyH.nil
          go_simp
          have hbx6 := below_alloc wn4 (.cells #[] 5)
          have HB6 : Hid (Below wr.heap.size wr (wn4.alloc (.cells #[] 5))) := (HB4.out).trans (hbx6.mono (HB4.out).size)
          have HE6 : Hid (Emp w1.heap.size (wn4.alloc (.cells #[] 5)) wn4.heap.size) := ⟨Nat.le_trans HMk.out.bl.size (HB4.out).size, heap_alloc_new wn4 _⟩
          have HO76 := Lib.hid (own_belowS HO4.out hbx6)
          refine hK.out _ _ (HC.out _ HB6.out) (fun hHeld => ?_)
          clear hK K hbx6
          generalize wn4.alloc (.cells #[] 5) = wn6 at *
          refine wpAnyH_ready (rs := [14]) (by kernel_rfl) (by simp) ?_
          refine AllReadyH.cons rfl (fun K hK => ?_) AllReadyH.nil
          rw [if_pos (by rfl)]
          refine wp_app_empty (.tmp 39) (.tmp 44) rfl HE6.out rfl Av p.2 p.2.length cv rfl rfl (HL.out wn6 HB6.out).2 (by omega) ?_
          intro v8 wn8 ho8 hb8
          have HB8 : Hid (Below wr.heap.size wr wn8) := (HB6.out).trans (hb8.mono (HB6.out).size)
          have HO78 := Lib.hid (own_belowS HO76.out hb8)
          obtain ⟨A8, c8, rfl, _⟩ := own_lies ho8
          have HO8 := Lib.hid ho8
          clear ho8 hb8
          refine hK.out _ _ (HC.out _ HB8.out) (fun hHeld => ?_)
          clear hK K
          refine wpAnyH_take (i := 15) (v := ?vf91) rfl (by kernel_rfl) (by kernel_rfl) (by kernel_rfl) (fun _ _ _ h => h) (Or.inl ⟨by kernel_rfl, ?yf91⟩) (by assumption) ?rf91
          case yf91 => (intro w hSw; (try dsimp only at hSw); obtain ⟨s1, s2⟩ := hSw; go_simp; (try with_reducible rfl))
          try simp only [Act.put, List.getElem_toArray, List.getElem_cons_zero, List.getElem_cons_succ, List.setIfInBounds_toArray, List.set_cons_zero, List.set_cons_succ]
          refine wpAnyH_ready (rs := [16]) (by kernel_rfl) (by simp) ?_
          refine AllReadyH.cons rfl (fun K hK => ?_) AllReadyH.nil
          go_simp
          have hbz := below_alloc wn8 (.cells #[.slice A4 p.1.length c4, .slice A8 p.2.length c8] 47)
          have HN := Lib.hid (cells_new2 wn8 (.slice A4 p.1.length c4) (.slice A8 p.2.length c8))
          have HBz : Hid (Below wr.heap.size wr (wn8.alloc (.cells #[.slice A4 p.1.length c4, .slice A8 p.2.length c8] 47))) := (HB8.out).trans (hbz.mono (HB8.out).size)
          have HZ7 := Lib.hid (own_belowS HO78.out hbz)
          have HZ14 := Lib.hid (own_belowS HO8.out hbz)
          refine hK.out _ _ (HC.out _ HBz.out) (fun hHeld => ?_)
          clear hK K hbz
          generalize hgz : wn8.heap.size = gz at *
          generalize wn8.alloc (.cells #[.slice A4 p.1.length c4, .slice A8 p.2.length c8] 47) = wz at *
          refine wpAnyH_ready (rs := [17]) (by kernel_rfl) (by simp) ?_
          refine AllReadyH.cons rfl (fun K hK => ?_) AllReadyH.nil
          rw [if_pos (by rfl)]
          obtain ⟨vs, ho6, hp6, hb6⟩ := HMk.out.on HBz.out
          refine wp_append_own wz (.tmp 31) (.tmp 47) 22 rfl w1.heap.size 47 i0 _ 2 48 Try.underlying22 hi hz0 hz1 hz2 rfl (by omega) _ k vs rfl ho6 ⟨gz, 0, none⟩ 1 1 [.slice A4 p.1.length c4, .slice A8 p.2.length c8] rfl rfl HN.out (by simp [Value.oneCell']) (by unfold maxLen; omega) (by omega) hb6.size ?_
          intro v7 w7 ho7 hg7 _
          have HM7 : Hid (MkA w1 ls (k + 1) v7 w7) := MkA.step HG.out ho6 hp6 hb6 HZ7.out HZ14.out HY.out.1 HY.out.2 ho7 hg7
          have hC7 := HC7.out wz w7 HBz.out vs ho6 hg7
          refine hK.out _ _ hC7 (fun hHeld => ?_)
          clear hK K ho6 hp6 hb6 ho7 hg7 hC7 hgz
          refine wpAnyH_take (i := 18) (v := ?vf92) rfl (by kernel_rfl) (by kernel_rfl) (by kernel_rfl) (fun _ _ _ h => h) (Or.inl ⟨by kernel_rfl, ?yf92⟩) (by assumption) ?rf92
          case yf92 => (intro w hSw; (try dsimp only at hSw); obtain ⟨s1, s2⟩ := hSw; go_simp; (try with_reducible rfl))
          try simp only [Act.put, List.getElem_toArray, List.getElem_cons_zero, List.getElem_cons_succ, List.setIfInBounds_toArray, List.set_cons_zero, List.set_cons_succ]
          refine wpAnyH_done (by kernel_rfl) ?_ _
          clear HC HC7 HL HY hHeld HBz HN HZ7 HZ14
          go_wp2
          go_roundw
          case rel => exact ⟨k + 1, by omega, by go_num, HM7.out⟩
          case measure => simp [intOf]; omega
        · skip
          go_simp
          have hbx10 := below_alloc wn2 (.cells #[] 5)
          have HB10 : Hid (Below wr.heap.size wr (wn2.alloc (.cells #[] 5))) := (HB2.out).trans (hbx10.mono (HB2.out).size)
          have HE10 : Hid (Emp w1.heap.size (wn2.alloc (.cells #[] 5)) wn2.heap.size) := ⟨Nat.le_trans HMk.out.bl.size (HB2.out).size, heap_alloc_new wn2 _⟩
          have HE110 := Lib.hid (HE2.out.on hbx10)
          refine hK.out _ _ (HC.out _ HB10.out) (fun hHeld => ?_)
          clear hK K hbx10
          generalize wn2.alloc (.cells #[] 5) = wn10 at *
          refine wpAnyH_ready (rs := [7]) (by kernel_rfl) (by simp) ?_
          refine AllReadyH.cons rfl (fun K hK => ?_) AllReadyH.nil
          rw [if_pos (by rfl)]
          refine wp_app_empty (.tmp 32) (.tmp 37) rfl HE110.out rfl Au p.1 p.1.length cu rfl rfl (HL.out wn10 HB10.out).1 (by omega) ?_
          intro v12 wn12 ho12 hb12
          have HB12 : Hid (Below wr.heap.size wr wn12) := (HB10.out).trans (hb12.mono (HB10.out).size)
          have HE812 := Lib.hid (HE10.out.on hb12)
          obtain ⟨A12, c12, rfl, _⟩ := own_lies ho12
          have HO12 := Lib.hid ho12
          clear ho12 hb12
          refine hK.out _ _ (HC.out _ HB12.out) (fun hHeld => ?_)
          clear hK K
          refine wpAnyH_ready (rs := [14]) (by kernel_rfl) (by simp) ?_
          refine AllReadyH.cons rfl (fun K hK => ?_) AllReadyH.nil
          rw [if_pos (by rfl)]
          refine wp_app_empty (.tmp 39) (.tmp 44) rfl HE812.out rfl Av p.2 p.2.length cv rfl rfl (HL.out wn12 HB12.out).2 (by omega) ?_
          intro v14 wn14 ho14 hb14
          have HB14 : Hid (Below wr.heap.size wr wn14) := (HB12.out).trans (hb14.mono (HB12.out).size)
          have HO714 := Lib.hid (own_belowS HO12.out hb14)
          obtain ⟨A14, c14, rfl, _⟩ := own_lies ho14
          have HO14 := Lib.hid ho14
          clear ho14 hb14
          refine hK.out _ _ (HC.out _ HB14.out) (fun hHeld => ?_)
          clear hK K
          refine wpAnyH_take (i := 15) (v := ?vf151) rfl (by kernel_rfl) (by kernel_rfl) (by kernel_rfl) (fun _ _ _ h => h) (Or.inl ⟨by kernel_rfl, ?yf151⟩) (by assumption) ?rf151
          case yf151 => (intro w hSw; (try dsimp only at hSw); obtain ⟨s1, s2⟩ := hSw; go_simp; (try with_reducible rfl))
          try simp only [Act.put, List.getElem_toArray, List.getElem_cons_zero, List.getElem_cons_succ, List.setIfInBounds_toArray, List.set_cons_zero, List.set_cons_succ]
          refine wpAnyH_ready (rs := [16]) (by kernel_rfl) (by simp) ?_
          refine AllReadyH.cons rfl (fun K hK => ?_) AllReadyH.nil
          go_simp
          have hbz := below_alloc wn14 (.cells #[.slice A12 p.1.length c12, .slice A14 p.2.length c14] 47)
          have HN := Lib.hid (cells_new2 wn14 (.slice A12 p.1.length c12) (.slice A14 p.2.length c14))
          have HBz : Hid (Below wr.heap.size wr (wn14.alloc (.cells #[.slice A12 p.1.length c12, .slice A14 p.2.length c14] 47))) := (HB14.out).trans (hbz.mono (HB14.out).size)
          have HZ7 := Lib.hid (own_belowS HO714.out hbz)
          have HZ14 := Lib.hid (own_belowS HO14.out hbz)
          refine hK.out _ _ (HC.out _ HBz.out) (fun hHeld => ?_)
          clear hK K hbz
          generalize hgz : wn14.heap.size = gz at *
          generalize wn14.alloc (.cells #[.slice A12 p.1.length c12, .slice A14 p.2.length c14] 47) = wz at *
          refine wpAnyH_ready (rs := [17]) (by kernel_rfl) (by simp) ?_
          refine AllReadyH.cons rfl (fun K hK => ?_) AllReadyH.nil
          rw [if_pos (by rfl)]
          obtain ⟨vs, ho6, hp6, hb6⟩ := HMk.out.on HBz.out
          refine wp_append_own wz (.tmp 31) (.tmp 47) 22 rfl w1.heap.size 47 i0 _ 2 48 Try.underlying22 hi hz0 hz1 hz2 rfl (by omega) _ k vs rfl ho6 ⟨gz, 0, none⟩ 1 1 [.slice A12 p.1.length c12, .slice A14 p.2.length c14] rfl rfl HN.out (by simp [Value.oneCell']) (by unfold maxLen; omega) (by omega) hb6.size ?_
          intro v7 w7 ho7 hg7 _
          have HM7 : Hid (MkA w1 ls (k + 1) v7 w7) := MkA.step HG.out ho6 hp6 hb6 HZ7.out HZ14.out HY.out.1 HY.out.2 ho7 hg7
          have hC7 := HC7.out wz w7 HBz.out vs ho6 hg7
          refine hK.out _ _ hC7 (fun hHeld => ?_)
          clear hK K ho6 hp6 hb6 ho7 hg7 hC7 hgz
          refine wpAnyH_take (i := 18) (v := ?vf152) rfl (by kernel_rfl) (by kernel_rfl) (by kernel_rfl) (fun _ _ _ h => h) (Or.inl ⟨by kernel_rfl, ?yf152⟩) (by assumption) ?rf152
          case yf152 => (intro w hSw; (try dsimp only at hSw); obtain ⟨s1, s2⟩ := hSw; go_simp; (try with_reducible rfl))
          try simp only [Act.put, List.getElem_toArray, List.getElem_cons_zero, List.getElem_cons_succ, List.setIfInBounds_toArray, List.set_cons_zero, List.set_cons_succ]
          refine wpAnyH_done (by kernel_rfl) ?_ _
          clear HC HC7 HL HY hHeld HBz HN HZ7 HZ14
          go_wp2
          go_roundw
          case rel => exact ⟨k + 1, by omega, by go_num, HM7.out⟩
          case measure => simp [intOf]; omega
      · skip
        go_simp
        have hbx16 := below_alloc wd (.cells #[] 5)
        have HB16 : Hid (Below wr.heap.size wr (wd.alloc (.cells #[] 5))) := (HBd.out).trans (hbx16.mono (HBd.out).size)
        have HE16 : Hid (Emp w1.heap.size (wd.alloc (.cells #[] 5)) wd.heap.size) := ⟨Nat.le_trans HMk.out.bl.size (HBd.out).size, heap_alloc_new wd _⟩
        refine hK.out _ _ (HC.out _ HB16.out) (fun hHeld => ?_)
        clear hK K hbx16
        generalize wd.alloc (.cells #[] 5) = wn16 at *
        refine wpAnyH_ready (rs := [1]) (by kernel_rfl) (by simp) ?_
        refine AllReadyH.cons rfl (fun K hK => ?_) AllReadyH.nil
        go_simp
        have hbx18 := below_alloc wn16 (.cells #[] 5)
        have HB18 : Hid (Below wr.heap.size wr (wn16.alloc (.cells #[] 5))) := (HB16.out).trans (hbx18.mono (HB16.out).size)
        have HE18 : Hid (Emp w1.heap.size (wn16.alloc (.cells #[] 5)) wn16.heap.size) := ⟨Nat.le_trans HMk.out.bl.size (HB16.out).size, heap_alloc_new wn16 _⟩
        have HE818 := Lib.hid (HE16.out.on hbx18)
        refine hK.out _ _ (HC.out _ HB18.out) (fun hHeld => ?_)
        clear hK K hbx18
        generalize wn16.alloc (.cells #[] 5) = wn18 at *
        refine wpAnyH_ready (rs := [7]) (by kernel_rfl) (by simp) ?_
        refine AllReadyH.cons rfl (fun K hK => ?_) AllReadyH.nil
        rw [if_pos (by rfl)]
        refine wp_app_empty (.tmp 32) (.tmp 37) rfl HE18.out rfl Au p.1 p.1.length cu rfl rfl (HL.out wn18 HB18.out).1 (by omega) ?_
        intro v20 wn20 ho20 hb20
        have HB20 : Hid (Below wr.heap.size wr wn20) := (HB18.out).trans (hb20.mono (HB18.out).size)
        have HE820 := Lib.hid (HE818.out.on hb20)
        obtain ⟨A20, c20, rfl, _⟩ := own_lies ho20
        have HO20 := Lib.hid ho20
        clear ho20 hb20
        refine hK.out _ _ (HC.out _ HB20.out) (fun hHeld => ?_)
        clear hK K
        refine wpAnyH_ready (rs := [14]) (by kernel_rfl) (by simp) ?_
        refine AllReadyH.cons rfl (fun K hK => ?_) AllReadyH.nil
        rw [if_pos (by rfl)]
        refine wp_app_empty (.tmp 39) (.tmp 44) rfl HE820.out rfl Av p.2 p.2.length cv rfl rfl (HL.out wn20 HB20.out).2 (by omega) ?_
        intro v22 wn22 ho22 hb22
        have HB22 : Hid (Below wr.heap.size wr wn22) := (HB20.out).trans (hb22.mono (HB20.out).size)
        have HO722 := Lib.hid (own_belowS HO20.out hb22)
        obtain ⟨A22, c22, rfl, _⟩ := own_lies ho22
        have HO22 := Lib.hid ho22
        clear ho22 hb22
        refine hK.out _ _ (HC.out _ HB22.out) (fun hHeld => ?_)
        clear hK K
        refine wpAnyH_take (i := 15) (v := ?vf231) rfl (by kernel_rfl) (by kernel_rfl) (by kernel_rfl) (fun _ _ _ h => h) (Or.inl ⟨by kernel_rfl, ?yf231⟩) (by assumption) ?rf231
        case yf231 => (intro w hSw; (try dsimp only at hSw); obtain ⟨s1, s2⟩ := hSw; go_simp; (try with_reducible rfl))
        try simp only [Act.put, List.getElem_toArray, List.getElem_cons_zero, List.getElem_cons_succ, List.setIfInBounds_toArray, List.set_cons_zero, List.set_cons_succ]
        refine wpAnyH_ready (rs := [16]) (by kernel_rfl) (by simp) ?_
        refine AllReadyH.cons rfl (fun K hK => ?_) AllReadyH.nil
        go_simp
        have hbz := below_alloc wn22 (.cells #[.slice A20 p.1.length c20, .slice A22 p.2.length c22] 47)
        have HN := Lib.hid (cells_new2 wn22 (.slice A20 p.1.length c20) (.slice A22 p.2.length c22))
        have HBz : Hid (Below wr.heap.size wr (wn22.alloc (.cells #[.slice A20 p.1.length c20, .slice A22 p.2.length c22] 47))) := (HB22.out).trans (hbz.mono (HB22.out).size)
        have HZ7 := Lib.hid (own_belowS HO722.out hbz)
        have HZ14 := Lib.hid (own_belowS HO22.out hbz)
        refine hK.out _ _ (HC.out _ HBz.out) (fun hHeld => ?_)
        clear hK K hbz
        generalize hgz : wn22.heap.size = gz at *
        generalize wn22.alloc (.cells #[.slice A20 p.1.length c20, .slice A22 p.2.length c22] 47) = wz at *
        refine wpAnyH_ready (rs := [17]) (by kernel_rfl) (by simp) ?_
        refine AllReadyH.cons rfl (fun K hK => ?_) AllReadyH.nil
        rw [if_pos (by rfl)]
        obtain ⟨vs, ho6, hp6, hb6⟩ := HMk.out.on HBz.out
        refine wp_append_own wz (.tmp 31) (.tmp 47) 22 rfl w1.heap.size 47 i0 _ 2 48 Try.underlying22 hi hz0 hz1 hz2 rfl (by omega) _ k vs rfl ho6 ⟨gz, 0, none⟩ 1 1 [.slice A20 p.1.length c20, .slice A22 p.2.length c22] rfl rfl HN.out (by simp [Value.oneCell']) (by unfold maxLen; omega) (by omega) hb6.size ?_
        intro v7 w7 ho7 hg7 _
        have HM7 : Hid (MkA w1 ls (k + 1) v7 w7) := MkA.step HG.out ho6 hp6 hb6 HZ7.out HZ14.out HY.out.1 HY.out.2 ho7 hg7
        have hC7 := HC7.out wz w7 HBz.out vs ho6 hg7
        refine hK.out _ _ hC7 (fun hHeld => ?_)
        clear hK K ho6 hp6 hb6 ho7 hg7 hC7 hgz
        refine wpAnyH_take (i := 18) (v := ?vf232) rfl (by kernel_rfl) (by kernel_rfl) (by kernel_rfl) (fun _ _ _ h => h) (Or.inl ⟨by kernel_rfl, ?yf232⟩) (by assumption) ?rf232
        case yf232 => (intro w hSw; (try dsimp only at hSw); obtain ⟨s1, s2⟩ := hSw; go_simp; (try with_reducible rfl))
        try simp only [Act.put, List.getElem_toArray, List.getElem_cons_zero, List.getElem_cons_succ, List.setIfInBounds_toArray, List.set_cons_zero, List.set_cons_succ]
        refine wpAnyH_done (by kernel_rfl) ?_ _
        clear HC HC7 HL HY hHeld HBz HN HZ7 HZ14
        go_wp2
        go_roundw
        case rel => exact ⟨k + 1, by omega, by go_num, HM7.out⟩
        case measure => simp [intOf]; omega
    · obtain rfl : k = ls.length := by omega
      generalize hwr : wr = wr0 at *
      clear hwr
      obtain ⟨vs, ho, hpo, hb⟩ := HMk.out
      obtain ⟨A', c', rfl, e2, e3, e4⟩ := own_liesS ho
      rw [List.take_length] at hpo
      have HBo := Lib.hid (HB1.out.trans (hb.mono HB1.out.size))
      have HPo : Hid (Prs wr0 wr0.heap.size A' c' ls) := PrsD.here ⟨vs, own_liesD2 ho, hpo.pscd⟩
      have HMo := Lib.hid (own_Muts ho hpo)
      have h1o := hb.size
      have he3 := e3
      clear ho hpo hb e4 HMk
      unfold maxLen at e3
      by_cases hr : RightM ls
      · have K1 := Lib.hid (newC A' ls c' wr0 HPo.out e2 he3 hl hr)
        go_wp2_with fail
        (with_reducible refine K1.out.mono ?_)
        rintro e w2 h
        obtain ⟨J', e', _, hj, _⟩ := h.jr (n0 := W.heap.size) hr HBo.out.size
        obtain ⟨J, A2, c2, rfl, hJ, hJ2, g1, g2, g3, g4, g5⟩ := h
        obtain rfl : J' = J := by injection e' with e'; injection e' with e'; injection e' with e'; injection e' with e'; exact e'.symm
        have HJ := Lib.hid hj
        have hJlt := (Array.getElem?_eq_some_iff.1 hJ2).1
        have H2 : Hid (w2.cell? ⟨J', 0, none⟩ = some (.slice A2 ls.length c2) ∧ ls.length ≤ c2 ∧ c2 ≤ maxLen ∧ PrsD w2 (Fr wr0.heap.size w2.heap.size) A2 c2 ls ∧ Below wr0.heap.size wr0 w2) := ⟨(cells2 hJ2).1, g1, g2, g3, g5⟩
        have hs2 := g5.size
        have HB2 := Lib.hid (HBo.out.trans (g5.mono HBo.out.size))
        have HE2 : Hid (Emp w2.heap.size (w2.alloc (.cells #[] 5)) w2.heap.size) := ⟨Nat.le_refl _, heap_alloc_new w2 _⟩
        have hba := below_alloc w2 (.cells #[] 5)
        have HBa := Lib.hid hba
        have HLk : Hid (Lies (w2.alloc (.cells #[] 5)) (w2.alloc (.cells #[] 5)).heap.size Ak ck (cellsOf key)) := by
          obtain ⟨_, _, e1, _, _, k1, _⟩ := (HK.out.on HB2.out).on hba
          injection e1 with e1 _ e1'
          subst e1 e1'
          exact k1
        clear e' hj hJ2 g1 g2 g3 g4 g5 hba K1
        go_wp2_with (at_builtin; refine wpList_app_empty rfl (.tmp 54) (.tmp 55) rfl HE2.out rfl Ak key key.length ck rfl rfl HLk.out (by omega) ?_; intro v3 w3 ho3 hb3; refine Hid.out ?_)
        obtain ⟨A3, c3, rfl, q1, q2, q3⟩ := own_lies ho3
        have HB3 : Hid (Below w2.heap.size w2 w3) := HBa.out.trans (hb3.mono HBa.out.size)
        have hs3 := HB3.out.size
        have HO3 : Hid (w3.ownsRow w2.heap.size 5 1 (.slice A3 key.length c3) key.length (cellsOf key)) := ho3
        have HBW3 := Lib.hid (HB2.out.trans (HB3.out.mono HB2.out.size))
        have HE3 : Hid (Emp w2.heap.size (w3.alloc (.cells #[] 5)) w3.heap.size) := ⟨hs3, heap_alloc_new w3 _⟩
        have hba3 := below_alloc w3 (.cells #[] 5)
        have HBa3 := Lib.hid hba3
        have HLv : Hid (Lies (w3.alloc (.cells #[] 5)) (w3.alloc (.cells #[] 5)).heap.size Av0 cv0 (cellsOf val)) := by
          obtain ⟨_, _, e1, _, _, k1, _⟩ := (HV.out.on HBW3.out).on hba3
          injection e1 with e1 _ e1'
          subst e1 e1'
          exact k1
        have hc3m := q2
        unfold maxLen at q2
        clear ho3 hb3 q3 hba3 HBa HE2 HLk
        refine Lib.hid ?_
        go_wp2_with (at_builtin; refine wpList_app_empty rfl (.tmp 57) (.tmp 58) rfl HE3.out rfl Av0 val val.length cv0 rfl rfl HLv.out (by omega) ?_; intro v4 w4 ho4 hb4; refine Hid.out ?_)
        obtain ⟨A4, c4, rfl, q4, q5, q6⟩ := own_lies ho4
        have HB4 : Hid (Below w3.heap.size w3 w4) := HBa3.out.trans (hb4.mono HBa3.out.size)
        have hs4 := HB4.out.size
        have HO4 : Hid (w4.ownsRow w2.heap.size 5 1 (.slice A4 val.length c4) val.length (cellsOf val)) := ho4
        have HO34 : Hid (w4.ownsRow w2.heap.size 5 1 (.slice A3 key.length c3) key.length (cellsOf key)) := own_belowS HO3.out HB4.out
        have HB24 : Hid (Below w2.heap.size w2 w4) := HB3.out.trans (HB4.out.mono hs3)
        have HBW4 := Lib.hid (HB2.out.trans (HB24.out.mono HB2.out.size))
        have HBY : Hid (ByS w4 w2.heap.size w4.heap.size A3 key.length ∧ ByS w4 w2.heap.size w4.heap.size A4 val.length) := ⟨own_ByS HO34.out, own_ByS HO4.out⟩
        have KP := Lib.hid (putJC2 W.heap.size w4 J' [] ls (HJ.out.on HB24.out) (by simp) A3 key c3 A4 val c4 (own_SB HO34.out HK.out.byt) (own_SB HO4.out HV.out.byt))
        unfold PutJ2 at KP
        unfold maxLen at q5
        clear ho4 hb4 q6 HBa3 HE3 HLv HO3 HBW3
        refine Lib.hid ?_
        go_wp2_with fail
        (with_reducible refine KP.out.mono ?_)
        rintro e w5 ⟨rfl, h1, h2⟩
        obtain ⟨cur, A5, c5, P0, P1, x1, x2, x3, x4, x5, x6, x7, x8, x9, x10⟩ : ∃ (cur : List PR) (A5 : Option Addr) (c5 P0 P1 : Nat), w5.cell? ⟨J', 0, none⟩ = some (.slice A5 cur.length c5) ∧ cur.length ≤ c5 ∧ c5 ≤ maxLen ∧ PrsD w5 (Fr P0 P1) A5 c5 cur ∧ wr0.heap.size ≤ P0 ∧ P1 ≤ w5.heap.size ∧ (P1 ≤ w2.heap.size ∨ w4.heap.size ≤ P0) ∧ RightM cur ∧ (putE ls key val = 0 → hasM cur key = true ∧ getM cur key = val) ∧ Off W.heap.size w4 w5 := by
          by_cases hE : putE ls key val = 0
          · obtain ⟨hch, A5, c5, y1, y2, y3, y4⟩ := h1 hE
            have hpl := puts_plain hr key val
            exact ⟨_, A5, c5, w4.heap.size, w5.heap.size, y1, y2, y3, y4, by omega, Nat.le_refl _, .inr (Nat.le_refl _), right_putM hr hE, fun _ => ⟨hpl.1, hpl.2.1⟩, hch.1⟩
          · have hb5 := h2 hE
            have hb25 : Below w2.heap.size w2 w5 := HB24.out.trans (hb5.mono HB24.out.size)
            exact ⟨ls, A2, c2, wr0.heap.size, w2.heap.size, by rw [hb25.cell (p := ⟨J', 0, none⟩) hJlt]; exact H2.out.1, H2.out.2.1, H2.out.2.2.1, H2.out.2.2.2.1.keep (fun b hb => hb25.block b hb.2) (fun b hb => hb), Nat.le_refl _, hb25.size, .inl (Nat.le_refl _), hr, fun h => absurd h hE, .of hb5⟩
        have hs5 := x10.size
        have HX : Hid (w5.cell? ⟨J', 0, none⟩ = some (.slice A5 cur.length c5) ∧ c5 ≤ maxLen ∧ PrsD w5 (Fr P0 P1) A5 c5 cur ∧ RightM cur ∧ (putE ls key val = 0 → hasM cur key = true ∧ getM cur key = val)) := ⟨x1, x3, x4, x8, x9⟩
        have HBW5 := Lib.hid (HBW4.out.trans (x10.below HBW4.out.size))
        have HMo5 := Lib.hid (((HMo.out.off (n0 := W.heap.size) (.of H2.out.2.2.2.2)).off (n0 := W.heap.size) (.of HB24.out)).off x10)
        have HBY5 : Hid (ByS w5 w2.heap.size w4.heap.size A3 key.length ∧ ByS w5 w2.heap.size w4.heap.size A4 val.length) := ⟨HBY.out.1.off x10, HBY.out.2.off x10⟩
        have KP5 := Lib.hid (pairsRaw w5 J' A5 c5 cur x1 (x4.prs fun b hb => by have := hb.2; omega) x2 x3 x8)
        generalize putE ls key val = E at *
        clear h1 h2 x1 x3 x4 x8 x9 x10 KP HBY HO4 HO34 HJ HMo HBW4
        go_wp2_with fail
        (with_reducible refine KP5.out.mono ?_)
        rintro e w6 h6
        obtain ⟨A6, c6, rfl, g1, g2, g3, g4, g5⟩ := h6.f
        have hs6 := g5.size
        have H6 : Hid (cur.length ≤ c6 ∧ c6 ≤ maxLen ∧ PrsD w6 (Fr w5.heap.size w6.heap.size) A6 c6 cur ∧ Below w5.heap.size w5 w6) := ⟨g1, g2, g3, g5⟩
        have hJ5 : J' < w5.heap.size := by omega
        have KP6 := Lib.hid (pairsRaw w6 J' A5 c5 cur (by rw [g5.cell (p := ⟨J', 0, none⟩) hJ5]; exact HX.out.1) ((HX.out.2.2.1.keep (fun b hb => g5.block b (by have := hb.2; omega)) (fun b hb => hb)).prs fun b hb => by have := hb.2; omega) x2 HX.out.2.1 HX.out.2.2.2.1)
        clear h6 g1 g2 g3 g4 g5 KP5
        go_wp2_with fail
        (with_reducible refine KP6.out.mono ?_)
        rintro e w7 ⟨A7, c7, vs7, rfl, g1, g2, g3, g4, g5⟩
        have hs7 := g5.size
        have HM7 := Lib.hid (own_Muts g3 g4)
        have HB57 : Hid (Below w5.heap.size w5 w7) := H6.out.2.2.2.trans (g5.mono hs6)
        have HB67 := Lib.hid g5
        have HBW7 := Lib.hid (HBW5.out.trans (HB57.out.mono HBW5.out.size))
        have HMo7 := Lib.hid (HMo5.out.off (n0 := W.heap.size) (.of HB57.out))
        have HBY7 : Hid (ByS w7 w2.heap.size w4.heap.size A3 key.length ∧ ByS w7 w2.heap.size w4.heap.size A4 val.length) := ⟨HBY5.out.1.off (n0 := W.heap.size) (.of HB57.out), HBY5.out.2.off (n0 := W.heap.size) (.of HB57.out)⟩
        have hg2 := g2
        unfold maxLen at g2
        clear g3 g4 g5 KP6 HBW5 HMo5 HBY5
        go_wp2_with fail
        go_loopw [16] (fun i w' => ∃ k : Nat, k ≤ cur.length ∧ i = .int .i64 k ∧ Hid (MutR w6.heap.size w7.heap.size w7 w' ∧ Muts w' w6.heap.size w7.heap.size A7 cur.length)) (fun i _ => cur.length - (intOf i).toNat)
        case atStart => exact ⟨0, Nat.zero_le _, rfl, MutR.refl _ _ _, HM7.out⟩
        case round =>
          obtain ⟨k, hk, rfl, HT⟩ := hrel
          generalize hwr : wr = wa at *
          clear hwr
          by_cases hlt : k < cur.length
          · obtain ⟨b, Av, m, cv, hA, hb1, hb2, ⟨cs, z, hrow⟩, hcell, hmc, hcm, hby⟩ := HT.out.2 k hlt
            have HR0 : Hid (MutR w6.heap.size w7.heap.size w7 wa ∧ Muts wa w6.heap.size w7.heap.size A7 cur.length ∧ wa.cell? ⟨b, k * 2 + 1, none⟩ = some (.slice Av m cv) ∧ ByS wa w6.heap.size w7.heap.size Av m) := ⟨HT.out.1, HT.out.2, hcell, hby⟩
            unfold maxLen at hcm
            subst hA
            clear hcell hby hrow hb1 hb2
            go_wp2_with fail
            go_loopw [17] (fun q w' => ∃ j : Nat, j ≤ m ∧ q = .int .i64 j ∧ Hid (MutR w6.heap.size w7.heap.size w7 w' ∧ Muts w' w6.heap.size w7.heap.size (some ⟨b, 0, none⟩) cur.length ∧ w'.cell? ⟨b, k * 2 + 1, none⟩ = some (.slice Av m cv) ∧ ByS w' w6.heap.size w7.heap.size Av m)) (fun q _ => m - (intOf q).toNat)
            case atStart => exact ⟨0, Nat.zero_le _, rfl, HR0.out⟩
            case round =>
              clear HR0
              obtain ⟨j, hj, rfl, HR1⟩ := hrel
              have hcell := HR1.out.2.2.1
              by_cases hjm : j < m
              · obtain ⟨g, x, hAv, hg1, hg2, ⟨cs, hg3⟩, hg4⟩ := HR1.out.2.2.2 j hjm
                subst hAv
                have hfz : wr.frozen? ⟨g, j, none⟩ = false := by simp [World.frozen?, hg3]
                have HN1 : Hid (∀ y, MutR w6.heap.size w7.heap.size w7 (wr.setCell ⟨g, j, none⟩ (.int .u8 y)) ∧ Muts (wr.setCell ⟨g, j, none⟩ (.int .u8 y)) w6.heap.size w7.heap.size (some ⟨b, 0, none⟩) cur.length ∧ (wr.setCell ⟨g, j, none⟩ (.int .u8 y)).cell? ⟨b, k * 2 + 1, none⟩ = some (.slice (some ⟨g, 0, none⟩) m cv) ∧ ByS (wr.setCell ⟨g, j, none⟩ (.int .u8 y)) w6.heap.size w7.heap.size (some ⟨g, 0, none⟩) m) := fun y => by
                  obtain ⟨b', Av', m', cv', hA', _, _, ⟨cs', z', hrow⟩, _⟩ := HR1.out.2.1 k hlt
                  injection hA' with hA'
                  injection hA' with hA'
                  subst hA'
                  refine ⟨HR1.out.1.trans (MutR.set wr _ hg1 hg2), HR1.out.2.1.set hg3 y, ?_, HR1.out.2.2.2.set hg3 y⟩
                  rw [World.cell?_setCell_far _ _ _ _ (by exact fun e' => tag_far hrow hg3 e'.symm)]
                  exact HR1.out.2.2.1
                clear hg3
                go_wp2
                go_roundw
                case rel => exact ⟨j + 1, by omega, by go_num, HN1.out _⟩
                case measure => simp [intOf]; omega
              · obtain rfl : j = m := by omega
                have HR2 : Hid (MutR w6.heap.size w7.heap.size w7 wr ∧ Muts wr w6.heap.size w7.heap.size (some ⟨b, 0, none⟩) cur.length) := ⟨HR1.out.1, HR1.out.2.1⟩
                go_wp2
                go_roundw
                case rel => exact ⟨k + 1, by omega, by go_num, HR2.out⟩
                case measure => simp [intOf]; omega
          · obtain rfl : k = cur.length := by omega
            have HTa := Lib.hid HT.out.1
            have HMoa := Lib.hid (HMo7.out.keep HTa.out (.inl (by omega)))
            have HBYa : Hid (ByS wa w2.heap.size w4.heap.size A3 key.length ∧ ByS wa w2.heap.size w4.heap.size A4 val.length) := ⟨HBY7.out.1.keep HTa.out (.inl (by omega)), HBY7.out.2.keep HTa.out (.inl (by omega))⟩
            clear HT HM7 HMo7 HBY7
            go_wp2_with fail
            go_loopw [18] (fun i w' => ∃ k : Nat, k ≤ ls.length ∧ i = .int .i64 k ∧ Hid (MutR w1.heap.size wr0.heap.size wa w' ∧ Muts w' w1.heap.size wr0.heap.size A' ls.length)) (fun i _ => ls.length - (intOf i).toNat)
            case atStart => exact ⟨0, Nat.zero_le _, rfl, MutR.refl _ _ _, HMoa.out⟩
            case round =>
              obtain ⟨k, hk, rfl, HU⟩ := hrel
              generalize hwr : wr = wb at *
              clear hwr
              by_cases hlt : k < ls.length
              · obtain ⟨b, Av, m, cv, hA, hb1, hb2, ⟨cs, z, hrow⟩, hcell, hmc, hcm, hby⟩ := HU.out.2 k hlt
                have HR0 : Hid (MutR w1.heap.size wr0.heap.size wa wb ∧ Muts wb w1.heap.size wr0.heap.size A' ls.length ∧ wb.cell? ⟨b, k * 2 + 1, none⟩ = some (.slice Av m cv) ∧ ByS wb w1.heap.size wr0.heap.size Av m) := ⟨HU.out.1, HU.out.2, hcell, hby⟩
                unfold maxLen at hcm
                subst hA
                clear hcell hby hrow hb1 hb2
                go_wp2_with fail
                go_loopw [19] (fun q w' => ∃ j : Nat, j ≤ m ∧ q = .int .i64 j ∧ Hid (MutR w1.heap.size wr0.heap.size wa w' ∧ Muts w' w1.heap.size wr0.heap.size (some ⟨b, 0, none⟩) ls.length ∧ w'.cell? ⟨b, k * 2 + 1, none⟩ = some (.slice Av m cv) ∧ ByS w' w1.heap.size wr0.heap.size Av m)) (fun q _ => m - (intOf q).toNat)
                case atStart => exact ⟨0, Nat.zero_le _, rfl, HR0.out⟩
                case round =>
                  clear HR0
                  obtain ⟨j, hj, rfl, HR1⟩ := hrel
                  have hcell := HR1.out.2.2.1
                  by_cases hjm : j < m
                  · obtain ⟨g, x, hAv, hg1, hg2, ⟨cs, hg3⟩, hg4⟩ := HR1.out.2.2.2 j hjm
                    subst hAv
                    have hfz : wr.frozen? ⟨g, j, none⟩ = false := by simp [World.frozen?, hg3]
                    have HN1 : Hid (∀ y, MutR w1.heap.size wr0.heap.size wa (wr.setCell ⟨g, j, none⟩ (.int .u8 y)) ∧ Muts (wr.setCell ⟨g, j, none⟩ (.int .u8 y)) w1.heap.size wr0.heap.size (some ⟨b, 0, none⟩) ls.length ∧ (wr.setCell ⟨g, j, none⟩ (.int .u8 y)).cell? ⟨b, k * 2 + 1, none⟩ = some (.slice (some ⟨g, 0, none⟩) m cv) ∧ ByS (wr.setCell ⟨g, j, none⟩ (.int .u8 y)) w1.heap.size wr0.heap.size (some ⟨g, 0, none⟩) m) := fun y => by
                      obtain ⟨b', Av', m', cv', hA', _, _, ⟨cs', z', hrow⟩, _⟩ := HR1.out.2.1 k hlt
                      injection hA' with hA'
                      injection hA' with hA'
                      subst hA'
                      refine ⟨HR1.out.1.trans (MutR.set wr _ hg1 hg2), HR1.out.2.1.set hg3 y, ?_, HR1.out.2.2.2.set hg3 y⟩
                      rw [World.cell?_setCell_far _ _ _ _ (by exact fun e' => tag_far hrow hg3 e'.symm)]
                      exact HR1.out.2.2.1
                    clear hg3
                    go_wp2
                    go_roundw
                    case rel => exact ⟨j + 1, by omega, by go_num, HN1.out _⟩
                    case measure => simp [intOf]; omega
                  · obtain rfl : j = m := by omega
                    have HR2 : Hid (MutR w1.heap.size wr0.heap.size wa wr ∧ Muts wr w1.heap.size wr0.heap.size (some ⟨b, 0, none⟩) ls.length) := ⟨HR1.out.1, HR1.out.2.1⟩
                    go_wp2
                    go_roundw
                    case rel => exact ⟨k + 1, by omega, by go_num, HR2.out⟩
                    case measure => simp [intOf]; omega
              · obtain rfl : k = ls.length := by omega
                have HUb := Lib.hid HU.out.1
                have HBYb : Hid (ByS wb w2.heap.size w4.heap.size A3 key.length ∧ ByS wb w2.heap.size w4.heap.size A4 val.length) := ⟨HBYa.out.1.keep HUb.out (.inr (by omega)), HBYa.out.2.keep HUb.out (.inr (by omega))⟩
                clear HU HMoa HBYa
                go_wp2_with fail
                go_loopw [20] (fun q w' => ∃ j : Nat, j ≤ val.length ∧ q = .int .i64 j ∧ Hid (MutR w2.heap.size w4.heap.size wb w' ∧ ByS w' w2.heap.size w4.heap.size A4 val.length ∧ ByS w' w2.heap.size w4.heap.size A3 key.length)) (fun q _ => val.length - (intOf q).toNat)
                case atStart => exact ⟨0, Nat.zero_le _, rfl, MutR.refl _ _ _, HBYb.out.2, HBYb.out.1⟩
                case round =>
                  obtain ⟨j, hj, rfl, HX4⟩ := hrel
                  generalize hwr : wr = wc at *
                  clear hwr
                  by_cases hjm : j < val.length
                  · obtain ⟨g, x, hAv, hg1, hg2, ⟨cs, hg3⟩, hg4⟩ := HX4.out.2.1 j hjm
                    subst hAv
                    have hfz : wc.frozen? ⟨g, j, none⟩ = false := by simp [World.frozen?, hg3]
                    have HN1 : Hid (∀ y, MutR w2.heap.size w4.heap.size wb (wc.setCell ⟨g, j, none⟩ (.int .u8 y)) ∧ ByS (wc.setCell ⟨g, j, none⟩ (.int .u8 y)) w2.heap.size w4.heap.size (some ⟨g, 0, none⟩) val.length ∧ ByS (wc.setCell ⟨g, j, none⟩ (.int .u8 y)) w2.heap.size w4.heap.size A3 key.length) := fun y => ⟨HX4.out.1.trans (MutR.set _ _ hg1 hg2), HX4.out.2.1.set hg3 y, HX4.out.2.2.set hg3 y⟩
                    clear hg3
                    go_wp2
                    go_roundw
                    case rel => exact ⟨j + 1, by omega, by go_num, HN1.out _⟩
                    case measure => simp [intOf]; omega
                  · obtain rfl : j = val.length := by omega
                    have HXc := Lib.hid HX4.out.1
                    have HBYc := Lib.hid HX4.out.2.2
                    clear HX4 HBYb
                    go_wp2_with fail
                    go_loopw [21] (fun q w' => ∃ j : Nat, j ≤ key.length ∧ q = .int .i64 j ∧ Hid (MutR w2.heap.size w4.heap.size wc w' ∧ ByS w' w2.heap.size w4.heap.size A3 key.length)) (fun q _ => key.length - (intOf q).toNat)
                    case atStart => exact ⟨0, Nat.zero_le _, rfl, MutR.refl _ _ _, HBYc.out⟩
                    case round =>
                      obtain ⟨j, hj, rfl, HX3⟩ := hrel
                      generalize hwr : wr = wd at *
                      clear hwr
                      by_cases hjm : j < key.length
                      · obtain ⟨g, x, hAv, hg1, hg2, ⟨cs, hg3⟩, hg4⟩ := HX3.out.2 j hjm
                        subst hAv
                        have hfz : wd.frozen? ⟨g, j, none⟩ = false := by simp [World.frozen?, hg3]
                        have HN1 : Hid (∀ y, MutR w2.heap.size w4.heap.size wc (wd.setCell ⟨g, j, none⟩ (.int .u8 y)) ∧ ByS (wd.setCell ⟨g, j, none⟩ (.int .u8 y)) w2.heap.size w4.heap.size (some ⟨g, 0, none⟩) key.length) := fun y => ⟨HX3.out.1.trans (MutR.set _ _ hg1 hg2), HX3.out.2.set hg3 y⟩
                        clear hg3
                        go_wp2
                        go_roundw
                        case rel => exact ⟨j + 1, by omega, by go_num, HN1.out _⟩
                        case measure => simp [intOf]; omega
                      · obtain rfl : j = key.length := by omega
                        have hwf : wd.heap.size = w7.heap.size := by rw [HX3.out.1.size, HXc.out.size, HUb.out.size, HTa.out.size]
                        have HKEEP : Hid (∀ b, ¬ (w6.heap.size ≤ b ∧ b < w7.heap.size) → ¬ (w1.heap.size ≤ b ∧ b < wr0.heap.size) → ¬ (w2.heap.size ≤ b ∧ b < w4.heap.size) → wd.heap[b]? = w7.heap[b]?) := fun b n1 n2 n3 =>
                          (((HX3.out.1.block b n3).trans (HXc.out.block b n3)).trans (HUb.out.block b n2)).trans (HTa.out.block b n1)
                        have hW1 : W.heap.size ≤ w1.heap.size := HB1.out.size
                        have HBWf : Hid (Below W.heap.size W wd) := (((HBW7.out.trans (HTa.out.below (by omega))).trans (HUb.out.below hW1)).trans (HXc.out.below (by omega))).trans (HX3.out.1.below (by omega))
                        have hJf : wd.cell? ⟨J', 0, none⟩ = some (.slice A5 cur.length c5) := by
                          rw [World.cell?_of_block (a := ⟨J', 0, none⟩) (w := w7) (HKEEP.out J' (by omega) (by omega) (by omega)), HB57.out.cell (p := ⟨J', 0, none⟩) hJ5]
                          exact HX.out.1
                        have HPf : Hid (Prs wd wd.heap.size A5 c5 cur) := ((HX.out.2.2.1.keep (fun b hb => by
                          rw [HKEEP.out b (by have := hb.2; omega) (by have := hb.1; omega) (by have := hb.1; have := hb.2; omega)]
                          exact HB57.out.block b (by have := hb.2; omega)) (fun b hb => hb)).prs fun b hb => by have := hb.2; omega)
                        have HWf : Hid (Prs wd wd.heap.size A6 c6 cur) := ((H6.out.2.2.1.keep (fun b hb => by
                          rw [HKEEP.out b (by have := hb.2; omega) (by have := hb.1; omega) (by have := hb.1; omega)]
                          exact HB67.out.block b hb.2) (fun b hb => hb)).prs fun b hb => by have := hb.2; omega)
                        have KG := Lib.hid (jgetRaw wd J' A5 c5 cur hJf HPf.out x2 HX.out.2.1 HX.out.2.2.2.1 Ak key ck (HK.out.on HBWf.out))
                        have HQ : Hid (E = 0 → hasM cur key = true ∧ getM cur key = val) := HX.out.2.2.2.2
                        have HRC : Hid (RightM cur ∧ c5 ≤ maxLen) := ⟨HX.out.2.2.2.1, HX.out.2.1⟩
                        clear HX3 HXc HBYc HUb HTa hwf HKEEP HX HB57 HB67 HBW7
                        generalize hasM cur key = hv at *
                        generalize getM cur key = gv at *
                        go_wp2_with fail
                        (with_reducible refine KG.out.mono ?_)
                        rintro e we ⟨V, rfl, v1, v2, v3⟩
                        have HBWe := Lib.hid (HBWf.out.trans (v3.mono HBWf.out.size))
                        have KPe := Lib.hid (pairsRaw we J' A5 c5 cur (by rw [v3.cell (p := ⟨J', 0, none⟩) (World.block_lt_of_cell? wd _ hJf)]; exact hJf) (HPf.out.on v3) x2 HRC.out.2 HRC.out.1)
                        have HWe := Lib.hid (HWf.out.on v3)
                        have HVe := Lib.hid (own_SB v1 v2)
                        obtain ⟨Ae, ce, rfl, _⟩ := own_SB v1 v2
                        clear v1 v2 v3 KG HPf HWf hJf
                        go_wp2_with fail
                        (with_reducible refine KPe.out.mono ?_)
                        rintro e wg h9
                        obtain ⟨Ag, cg, rfl, g1, g2, g3, g4, g5⟩ := h9.f
                        have KSg : Hid (Calls Try.prog 22 #[.slice Ag cur.length cg, .slice A6 cur.length c6] wg fun e w' => e = .returned (.bool true) ∧ Below wg.heap.size wg w') := by
                          have := sameC Ag cur cg A6 cur c6 wg g3.here g1 g2 (HWe.out.on g5)
                          rw [decide_eq_true rfl] at this
                          exact this
                        have HBWg := Lib.hid (HBWe.out.trans (g5.mono HBWe.out.size))
                        have HVg := Lib.hid (HVe.out.on g5)
                        clear h9 g1 g2 g3 g4 g5 KPe HWe HVe
                        go_wp2_with fail
                        (with_reducible refine KSg.out.mono ?_)
                        rintro e wh ⟨rfl, bh⟩
                        have HBWh := Lib.hid (HBWg.out.trans (bh.mono HBWg.out.size))
                        by_cases hE0 : E = 0
                        · obtain ⟨rfl, rfl⟩ := HQ.out hE0
                          subst hE0
                          have d1 := (HVg.out.on bh).str
                          have d2 := (HV.out.on HBWh.out).str
                          generalize strOfNums gv = st at *
                          clear bh KSg HVg HQ
                          go_wp2
                          go_ret
                          exact ⟨rfl, HBWh.out⟩
                        · have hE1 : (E == 0) = false := by simpa using hE0
                          clear bh KSg HVg HQ
                          go_wp2
                          all_goals first | (go_ret; exact ⟨rfl, HBWh.out⟩) | (exact absurd (by assumption) hE0)
      · have K1 := Lib.hid (newC_nil A' ls c' wr0 HPo.out e2 he3 hl hr)
        go_wp2_with fail
        (with_reducible refine K1.out.mono ?_)
        rintro e w2 ⟨rfl, hb2⟩
        have HB2 := Lib.hid (HBo.out.trans (hb2.mono HBo.out.size))
        clear hb2
        go_wp2
        go_ret
        exact ⟨rfl, HB2.out⟩
end Go.Proofs.Ytncbbjodianmoaa
