/- The walk of SealBack: it returns true, and nothing that was there has changed. Conditions: none beyond what its argument is, and its reach; the table of sixteen lies as the program lays it. -/
import Derived.Test.YtjilifodmmhnkaaDoorHeld
import Derived.Deep.DeepCutAuto
namespace Go.Proofs.YtjilifodmmhnkaaDoor
open Go.RowKit

theorem opL_again {l : List Int} (h : opE l = 0) : four (crcI (opL l)) ++ opL l = l := by
  have h1 := opE_0 h
  have hL : opL l = l.drop 4 := by unfold opL; rw [if_pos h]
  rw [hL, ← h1.2]
  exact List.take_append_drop 4 l
theorem opL_byt {l : List Int} (h : Byt l) : Byt (opL l) := by
  unfold opL
  split
  · exact h.sub fun x hx => List.mem_of_mem_drop hx
  · exact Byt.nil
theorem opL_le (l : List Int) : (opL l).length ≤ l.length := by
  unfold opL
  split
  · simp
  · simp

set_option maxRecDepth 100000 in
set_option maxHeartbeats 2000000 in
theorem back_walk (A : Option Addr) (l : List Int) (c : Nat) (w : World) (hc : l.length ≤ c) (hcm : c ≤ maxLen) (hr : c ≤ 140737488351232) (hl : Lies w w.heap.size A c (cellsOf l)) (hy : Byt l) (ht : Tab w) :
    Calls Tryd.prog 4 #[.slice A l.length c] w fun e w' => e = .returned (.bool true) ∧ Below w.heap.size w w' := by
  have HL := Lib.hid hl
  have HY := Lib.hid hy
  have HT := Lib.hid ht
  have hpos := ht.1
  clear hl hy ht
  go_enter Tryd.func4, Tryd.ntmps4
  go_wp2_with fail
  refine (head_true _ HT.out).mono ?_
  rintro e w1 ⟨rfl, hb1⟩
  have s1 := hb1.size
  go_wp2_with fail
  refine (sealO A l l.length c _ rfl hc hcm (by omega) ((HL.out.below hb1).more s1) HY.out (HT.out.below hb1 hpos)).mono ?_
  rintro e w2 ⟨v2, rfl, ho2, hb2⟩
  have bw2 := hb1.trans (hb2.mono s1)
  have s2 := bw2.size
  go_wp2_with fail
  refine (open_own _ _ _ v2 _ rfl ho2 (by rw [seal_length]; omega) (seal_byt HY.out) (HT.out.below bw2 hpos)).mono ?_
  rw [opE_seal, opL_seal]
  rintro e w3 ⟨v3, rfl, ho3, hb3⟩
  have bw3 := bw2.trans (hb3.mono s2)
  have s3 := bw3.size
  have q1 := own_str rfl ho3
  have q2 := lies_str (n := l.length) rfl (HL.out.below bw3)
  have HK := Lib.hid (sealS (w := w3) rfl hc hcm (by omega) ((HL.out.below bw3).more s3) HY.out (HT.out.below bw3 hpos) rfl (seal_length l))
  clear ho2 hb2 ho3 hb3 hb1 s1 bw2 s2
  generalize strOfNums l = S at *
  go_wp2_with fail
  clear q1 q2
  refine HK.out.mono ?_
  rintro e w4 ⟨A4, c4, rfl, _, hb4⟩
  have bw4 := bw3.trans (hb4.mono s3)
  have s4 := bw4.size
  clear hb4 bw3 s3 HK
  have HK := Lib.hid (openO A l l.length c w4 rfl hc hcm (by omega) ((HL.out.below bw4).more s4) HY.out (HT.out.below bw4 hpos))
  have hcm' := hcm
  unfold maxLen at hcm'
  go_wp2_with fail
  refine HK.out.mono ?_
  rintro e w5 ⟨v5, rfl, ho5, hb5⟩
  have bw5 := bw4.trans (hb5.mono s4)
  have s5 := bw5.size
  clear hb5 bw4 s4 HK
  by_cases hE : opE l = 0
  · obtain ⟨A5, c5, rfl, h51, h52, h53⟩ := own_lies ho5
    have hle := opL_le l
    have bd : Below w5.heap.size w5 w5.drew := (Below.refl _ _).drew
    have sd : w5.drew.heap.size = w5.heap.size := rfl
    have K10 := Lib.hid (sealS (w := w5.drew) rfl h51 h52 (by omega) (h53.below bd) (opL_byt HY.out) (HT.out.below (bw5.trans (bd.mono s5)) hpos) (opL_again hE) rfl)
    have hsb : Str w5 A l.length c (strOfNums l) := str_of rfl ((HL.out.below bw5).more s5)
    rw [hE]
    clear hE ho5 h53 hle bd sd
    generalize (opL l).length = n5 at *
    generalize strOfNums l = S at *
    go_upto_region 6 with fail
    refine wp_region_held_drew (S := fun w' => Below w5.heap.size w5 w') (by kernel_rfl) ?_ (fun hHeld => ?_)
    · exact (Below.refl _ _).drew
    refine wpAnyH_take (i := 0) (v := ?v0) rfl (by kernel_rfl) (by kernel_rfl) (by kernel_rfl) (fun _ _ _ h => h) (Or.inl ⟨by kernel_rfl, ?y0⟩) (by assumption) ?r0
    case y0 => (intro w hSw; (try dsimp only at hSw); go_simp; (try with_reducible rfl))
    try simp only [Act.put, List.getElem_toArray, List.getElem_cons_zero, List.setIfInBounds_toArray, List.set_cons_zero, List.set_cons_succ]
    refine wpAnyH_take (i := 1) (v := ?v1) rfl (by kernel_rfl) (by kernel_rfl) (by kernel_rfl) (fun _ _ _ h => h) (Or.inl ⟨by kernel_rfl, ?y1⟩) (by assumption) ?r1
    case y1 => (intro w hSw; (try dsimp only at hSw); go_simp; (try with_reducible rfl))
    try simp only [Act.put, List.getElem_toArray, List.getElem_cons_zero, List.getElem_cons_succ, List.setIfInBounds_toArray, List.set_cons_zero, List.set_cons_succ]
    refine wpAnyH_take (i := 2) (v := ?v2) rfl (by kernel_rfl) (by kernel_rfl) (by kernel_rfl) (fun _ _ _ h => h) (Or.inl ⟨by kernel_rfl, ?y2⟩) (by assumption) ?r2
    case y2 => (intro w hSw; (try dsimp only at hSw); go_simp; (try with_reducible rfl))
    try simp only [Act.put, List.getElem_toArray, List.getElem_cons_zero, List.getElem_cons_succ, List.setIfInBounds_toArray, List.set_cons_zero, List.set_cons_succ]
    refine wpAnyH_take (i := 3) (v := ?v3) rfl (by kernel_rfl) (by kernel_rfl) (by kernel_rfl) (fun _ _ _ h => h) (Or.inl ⟨by kernel_rfl, ?y3⟩) (by assumption) ?r3
    case y3 => (intro w hSw; (try dsimp only at hSw); go_simp; (try with_reducible rfl))
    try simp only [Act.put, List.getElem_toArray, List.getElem_cons_zero, List.getElem_cons_succ, List.setIfInBounds_toArray, List.set_cons_zero, List.set_cons_succ]
    refine wpAnyH_take (i := 4) (v := ?v4) rfl (by kernel_rfl) (by kernel_rfl) (by kernel_rfl) (fun _ _ _ h => h) (Or.inl ⟨by kernel_rfl, ?y4⟩) (by assumption) ?r4
    case y4 => (intro w hSw; (try dsimp only at hSw); go_simp; (try with_reducible rfl))
    try simp only [Act.put, List.getElem_toArray, List.getElem_cons_zero, List.getElem_cons_succ, List.setIfInBounds_toArray, List.set_cons_zero, List.set_cons_succ]
    refine wpAnyH_take (i := 5) (v := ?v5) rfl (by kernel_rfl) (by kernel_rfl) (by kernel_rfl) (fun _ _ _ h => h) (Or.inl ⟨by kernel_rfl, ?y5⟩) (by assumption) ?r5
    case y5 => (intro w hSw; (try dsimp only at hSw); go_simp; (try with_reducible rfl))
    try simp only [Act.put, List.getElem_toArray, List.getElem_cons_zero, List.getElem_cons_succ, List.setIfInBounds_toArray, List.set_cons_zero, List.set_cons_succ]
    refine wpAnyH_take (i := 8) (v := ?v8) rfl (by kernel_rfl) (by kernel_rfl) (by kernel_rfl) (fun _ _ _ h => h) (Or.inl ⟨by kernel_rfl, ?y8⟩) (by assumption) ?r8
    case y8 => (intro w hSw; (try dsimp only at hSw); go_simp; (try with_reducible rfl))
    try simp only [Act.put, List.getElem_toArray, List.getElem_cons_zero, List.getElem_cons_succ, List.setIfInBounds_toArray, List.set_cons_zero, List.set_cons_succ]
    refine wpAnyH_take (i := 9) (v := ?v9) rfl (by kernel_rfl) (by kernel_rfl) (by kernel_rfl) (fun _ _ _ h => h) (Or.inl ⟨by kernel_rfl, ?y9⟩) (by assumption) ?r9
    case y9 => (intro w hSw; (try dsimp only at hSw); have qc := hsb _ hSw; go_simp; (try with_reducible rfl))
    try simp only [Act.put, List.getElem_toArray, List.getElem_cons_zero, List.getElem_cons_succ, List.setIfInBounds_toArray, List.set_cons_zero, List.set_cons_succ]
    refine wpAnyH_ready (rs := [6]) (by kernel_rfl) (by simp) ?_
    refine AllReadyH.cons rfl (fun K hK => ?_) AllReadyH.nil
    go_simp
    refine K10.out.mono ?_
    rintro e w6 ⟨A6, c6, rfl, hs6, hb6⟩
    go_wp2_with fail
    replace hb6 : Below w5.heap.size w5 w6 := (Below.refl w5.heap.size w5).drew.trans hb6
    refine hK.out _ _ hb6 (fun _ => ?_)
    clear hK K hHeld
    refine held_mono (S := fun w' => Below w6.heap.size w6 w') (fun w' h => hb6.trans (h.mono hb6.size)) _ _ _ _ ?_
    have hHeld : Below w6.heap.size w6 w6 := Below.refl _ _
    refine wpAnyH_take (i := 7) (v := ?v7) rfl (by kernel_rfl) (by kernel_rfl) (by kernel_rfl) (fun _ _ _ h => h) (Or.inl ⟨by kernel_rfl, ?y7⟩) (by assumption) ?r7
    case y7 => (intro w hSw; (try dsimp only at hSw); have qc := hs6 _ hSw; go_simp; (try with_reducible rfl))
    try simp only [Act.put, List.getElem_toArray, List.getElem_cons_zero, List.getElem_cons_succ, List.setIfInBounds_toArray, List.set_cons_zero, List.set_cons_succ]
    refine wpAnyH_take (i := 10) (v := ?v10) rfl (by kernel_rfl) (by kernel_rfl) (by kernel_rfl) (fun _ _ _ h => h) (Or.inl ⟨by kernel_rfl, ?y10⟩) (by assumption) ?r10
    case y10 => (intro w hSw; (try dsimp only at hSw); go_simp; (try with_reducible rfl))
    try simp only [Act.put, List.getElem_toArray, List.getElem_cons_zero, List.getElem_cons_succ, List.setIfInBounds_toArray, List.set_cons_zero, List.set_cons_succ]
    refine wpAnyH_take (i := 11) (v := ?v11) rfl (by kernel_rfl) (by kernel_rfl) (by kernel_rfl) (fun _ _ _ h => h) (Or.inl ⟨by kernel_rfl, ?y11⟩) (by assumption) ?r11
    case y11 => (intro w hSw; (try dsimp only at hSw); go_simp; (try with_reducible rfl))
    try simp only [Act.put, List.getElem_toArray, List.getElem_cons_zero, List.getElem_cons_succ, List.setIfInBounds_toArray, List.set_cons_zero, List.set_cons_succ]
    refine wpAnyH_take (i := 12) (v := ?v12) rfl (by kernel_rfl) (by kernel_rfl) (by kernel_rfl) (fun _ _ _ h => h) (Or.inl ⟨by kernel_rfl, ?y12⟩) (by assumption) ?r12
    case y12 => (intro w hSw; (try dsimp only at hSw); go_simp; (try with_reducible rfl))
    try simp only [Act.put, List.getElem_toArray, List.getElem_cons_zero, List.getElem_cons_succ, List.setIfInBounds_toArray, List.set_cons_zero, List.set_cons_succ]
    refine wpAnyH_take (i := 13) (v := ?v13) rfl (by kernel_rfl) (by kernel_rfl) (by kernel_rfl) (fun _ _ _ h => h) (Or.inl ⟨by kernel_rfl, ?y13⟩) (by assumption) ?r13
    case y13 => (intro w hSw; (try dsimp only at hSw); go_simp; (try with_reducible rfl))
    try simp only [Act.put, List.getElem_toArray, List.getElem_cons_zero, List.getElem_cons_succ, List.setIfInBounds_toArray, List.set_cons_zero, List.set_cons_succ]
    refine wpAnyH_done (by kernel_rfl) ?_ _
    go_wp2
    go_ret
    exact ⟨rfl, bw5.trans (hb6.mono s5)⟩
  · have hE' : (opE l != 0) = true := by simpa using hE
    clear hE
    generalize opE l = E at *
    go_upto_region 6 with fail
    go_quiet (fail)
    go_wp2
    go_ret
    exact ⟨rfl, below_drewN bw5 _⟩
end Go.Proofs.YtjilifodmmhnkaaDoor
