/- The walk of SealTells: it returns true, and nothing that was there has changed. Conditions: none beyond what its argument is, and its reach; the table of sixteen lies as the program lays it. -/
import Derived.Test.YtjilifodmmhnkaaDoorHeld
import Derived.Deep.DeepCutAuto
namespace Go.Proofs.YtjilifodmmhnkaaDoor
open Go.RowKit

/-- what the loop over the copy keeps -/
def TouchRel (w0 : World) (base : Nat) (A : Option Addr) (c : Nat) (b : List Int) (k : Nat) (wr : World) : Prop :=
  ∃ xs : List Value, wr.ownsRow base 5 1 (.slice A b.length c) b.length xs ∧ w0.grownBy wr (Value.ownBlock (.slice A b.length c)) ∧ ∀ (j : Nat) (x : Int), k ≤ j → b[j]? = some x → xs[j]? = some (.int .u8 x)
theorem TouchRel.step {w0 wr : World} {base g : Nat} {c : Nat} {b : List Int} {k : Nat} (h : TouchRel w0 base (some ⟨g, 0, none⟩) c b k wr) (u : Value) : TouchRel w0 base (some ⟨g, 0, none⟩) c b (k + 1) (wr.setCell ⟨g, k, none⟩ u) := by
  obtain ⟨xs, h1, h2, h3⟩ := h
  have hst := h1.stored k u
  refine ⟨xs.set k u, hst.1, grown_trans h2 hst.2, fun j x hj hx => ?_⟩
  rw [List.getElem?_set_ne (by omega)]
  exact h3 j x (by omega) hx
/-- an own row's string in every later world -/
theorem own_Str {w : World} {base : Nat} {v : Value} {n : Nat} {l : List Int} (hn : l.length = n) (h : w.ownsRow base 5 1 v n (cellsOf l)) : ∃ A c, v = .slice A n c ∧ Str w A n c (strOfNums l) := by
  obtain ⟨A, c, rfl, _, _, h3⟩ := own_lies h
  exact ⟨A, c, rfl, str_of hn h3⟩
/-- the document's Seal, with its string in every later world -/
theorem refSealS {w : World} {l : List Int} {A : Option Addr} {n c : Nat} (hn : l.length = n) (hc : n ≤ c) (hcm : c ≤ maxLen) (hr : n ≤ 140737488351300) (hl : Lies w w.heap.size A c (cellsOf l)) (hy : Byt l) :
    Calls Tryd.prog 15 #[.slice A n c] w (SealS w (four (crcI l) ++ l).length (strOfNums (four (crcI l) ++ l))) := by
  refine (refSealO A l n c w hn hc hcm hr hl hy).mono fun e w' ⟨v, he, ho, hb⟩ => ?_
  obtain ⟨A', c', rfl, h1, h2, h3⟩ := own_lies ho
  exact ⟨A', c', he, str_of rfl h3, hb⟩

set_option maxRecDepth 100000 in
set_option maxHeartbeats 4000000 in
theorem tells_walk (A : Option Addr) (b : List Int) (c : Nat) (w : World) (hc : b.length ≤ c) (hcm : c ≤ maxLen) (hr : c ≤ 140737488351232) (hl : Lies w w.heap.size A c (cellsOf b)) (hy : Byt b) (ht : Tab w) :
    Calls Tryd.prog 3 #[.slice A b.length c] w fun e w' => e = .returned (.bool true) ∧ Below w.heap.size w w' := by
  have HL := Lib.hid hl
  have HY := Lib.hid hy
  have HT := Lib.hid ht
  have hpos := ht.1
  clear hl hy ht
  obtain ⟨i0, hi, hz0, hz1, hz2⟩ := info_parts info5
  go_enter Tryd.func3, Tryd.ntmps3
  go_wp2_with fail
  refine (head_true _ HT.out).mono ?_
  rintro e w1 ⟨rfl, bw1⟩
  have ho0 := own_empty w1
  have hal := (Below.refl w1.heap.size w1).alloc (Nat.le_refl _) (.cells #[] 5)
  have hzal := hal.size
  have lb0 := ((HL.out.below bw1).more bw1.size).below hal
  go_wp2_with (at_builtin; refine wpList_append_lies rfl (.tmp 12) (.tmp 13) 22 rfl w1.heap.size 5 i0 (.int .u8 0) 1 Tryd.underlying22 hi hz0 hz1 hz2 rfl _ _ _ rfl ho0 _ A b.length c (cellsOf b) rfl (by simp) lb0 (bytes_oneCell _) (by unfold maxLen; omega) (by omega) hzal ?_; intro v2 w2 ho2 hg2)
  have hB2 : Below w1.heap.size w1 w2 := hal.grown hg2 hzal (fun k hk => (ho0.lt k hk).1)
  have hown := own_eq ho2 (m := b.length) (ys := cellsOf b) (by omega) (by simp)
  obtain ⟨Ao, co, hv2, n1, n2, n3⟩ := own_lies hown
  subst hv2
  have bw2 := bw1.trans (hB2.mono bw1.size)
  have HOWN := Lib.hid hown
  have HLO := Lib.hid n3
  clear ho0 hal hzal lb0 ho2 hg2 hown n3 hB2 hi hz0 hz1 hz2
  refine (sealO Ao b b.length co _ rfl n1 n2 (by omega) HLO.out HY.out (HT.out.below bw2 hpos)).mono ?_
  rintro e w3 ⟨va, rfl, oa, e3⟩
  have bw3 := bw2.trans (e3.mono bw2.size)
  have u3 : Below w2.heap.size w2 w3 := e3
  have OA := Lib.hid oa
  clear oa
  go_wp2_with fail
  refine (openO Ao b b.length co _ rfl n1 n2 (by omega) ((HLO.out.below u3).more u3.size) HY.out (HT.out.below bw3 hpos)).mono ?_
  rintro e w4 ⟨vc, rfl, oc, e4⟩
  have bw4 := bw3.trans (e4.mono bw3.size)
  have u4 := u3.trans (e4.mono u3.size)
  have OC := Lib.hid (own_mono oc u3.size)
  have OA := Lib.hid (own_below OA.out e4 (Nat.le_refl _))
  clear oc
  go_wp2_with fail
  refine (refOpenO A b b.length c _ rfl hc hcm (by omega) ((HL.out.below bw4).more bw4.size) HY.out).mono ?_
  rintro e w5 ⟨vd, rfl, od, e5⟩
  have bw5 := bw4.trans (e5.mono bw4.size)
  have u5 := u4.trans (e5.mono u4.size)
  have OD := Lib.hid (own_mono od u4.size)
  have OA := Lib.hid (own_below OA.out e5 (Nat.le_refl _))
  have OC := Lib.hid (own_below OC.out e5 (Nat.le_refl _))
  have hst : TouchRel w5 w1.heap.size Ao co b 0 w5 := ⟨cellsOf b, own_below HOWN.out u5 (Nat.le_refl _), World.grownBy.refl _ _, fun j x _ hx => by simp [hx]⟩
  have HLT : Hid (∀ g, Value.ownBlock (.slice Ao b.length co) = some g → g < w2.heap.size) := fun g hg => (HOWN.out.lt g hg).2
  have HBW := Lib.hid bw5
  have HW1 := Lib.hid bw1.size
  clear od e3 e4 e5 bw1 bw2 bw3 bw4 bw5 u3 u4 u5
  generalize opE b = E1 at *
  have hbl : b.length ≤ 140737488351232 := by omega
  go_wp2
  go_loopw [10] (fun i wr => ∃ k : Nat, k ≤ b.length ∧ i = .int .i64 k ∧ TouchRel w5 w1.heap.size Ao co b k wr) (fun i _ => b.length - (intOf i).toNat)
  case atStart => exact ⟨0, Nat.zero_le _, rfl, hst⟩
  case round =>
    clear hst
    obtain ⟨k, hk, rfl, hR⟩ := hrel
    by_cases hkl : k < b.length
    · obtain ⟨xs, r1, r2, r3⟩ := hR
      obtain ⟨g, rfl, hg⟩ := own_addr r1 (by omega)
      obtain ⟨x, hx⟩ : ∃ x, b[k]? = some x := ⟨_, List.getElem?_eq_getElem hkl⟩
      have hcell : wr.cell? ⟨g, k, none⟩ = some (.int .u8 x) := by rw [r1.cellAt k (by omega)]; exact r3 k x (Nat.le_refl _) hx
      have hfz := r1.frozenAt k
      have HR : Hid (TouchRel w5 w1.heap.size (some ⟨g, 0, none⟩) co b k wr) := ⟨xs, r1, r2, r3⟩
      clear r1 r2 r3 hx
      go_wp2
      go_roundw
      case rel => exact ⟨k + 1, by omega, by go_num, HR.out.step _⟩
      case measure => simp [intOf]; omega
    · obtain ⟨xs, r1, r2, r3⟩ := hR
      have F1 := own_kept' OA.out r2 HLT.out
      have F2 := own_kept' OC.out r2 HLT.out
      have F3 := own_kept' OD.out r2 HLT.out
      have hbw : Below w.heap.size w wr := HBW.out.grown r2 HBW.out.size (fun g hg => by have h1 := (r1.lt g hg).1; have h2 := HW1.out; omega)
      have sw := hbw.size
      obtain ⟨A6, c6, rfl, q1⟩ := own_Str rfl F1
      obtain ⟨A7, c7, rfl, q2⟩ := own_Str rfl F2
      obtain ⟨A8, c8, rfl, q3⟩ := own_Str rfl F3
      have bd : Below wr.heap.size wr wr.drew := (Below.refl _ _).drew
      have ldr := ((HL.out.below hbw).more sw).below bd
      have K13 := Lib.hid (sum A b c wr.drew _ hc hcm ldr HY.out (HT.out.below (hbw.trans (bd.mono sw)) hpos))
      have K14 := Lib.hid (refSum A b c wr.drew _ hc hcm ldr HY.out)
      have K15 := Lib.hid (refSealS (w := wr.drew) rfl hc hcm (by omega) ldr HY.out)
      clear F1 F2 F3 r1 r2 r3 ldr bd OA OC OD HOWN HLO
      generalize strOfNums (four (crcI b) ++ b) = S1 at *
      generalize (four (crcI b) ++ b).length = m1 at *
      generalize strOfNums (opL b) = S2 at *
      generalize (opL b).length = m2 at *
      generalize crcI b = s at *
      go_wp2
      refine wp_region_held_drew (S := fun w' => Below wr.heap.size wr w') (by kernel_rfl) ?_ (fun hHeld => ?_)
      · exact (Below.refl _ _).drew
      refine wpAnyH_take (i := 0) (v := ?v0) rfl (by kernel_rfl) (by kernel_rfl) (by kernel_rfl) (fun _ _ _ h => h) (Or.inl ⟨by kernel_rfl, ?y0⟩) (by assumption) ?r0
      case y0 => (intro w hSw; (try dsimp only at hSw); go_simp; (try with_reducible rfl))
      try simp only [Act.put, List.getElem_toArray, List.getElem_cons_zero, List.setIfInBounds_toArray, List.set_cons_zero, List.set_cons_succ]
      refine wpAnyH_take (i := 1) (v := ?v1) rfl (by kernel_rfl) (by kernel_rfl) (by kernel_rfl) (fun _ _ _ h => h) (Or.inl ⟨by kernel_rfl, ?y1⟩) (by assumption) ?r1
      case y1 => (intro w hSw; (try dsimp only at hSw); go_simp; (try with_reducible rfl))
      try simp only [Act.put, List.getElem_toArray, List.getElem_cons_zero, List.getElem_cons_succ, List.setIfInBounds_toArray, List.set_cons_zero, List.set_cons_succ]
      refine wpAnyH_take (i := 2) (v := ?v2) rfl (by kernel_rfl) (by kernel_rfl) (by kernel_rfl) (fun _ _ _ h => h) (Or.inl ⟨by kernel_rfl, ?y2⟩) (by assumption) ?r2
      case y2 => (intro w hSw; (try dsimp only at hSw); go_simp; (try with_reducible rfl))
      try simp only [Act.put, List.getElem_toArray, List.getElem_cons_zero, List.getElem_cons_succ, List.setIfInBounds_toArray, List.set_cons_zero, List.set_cons_succ]
      refine wpAnyH_take (i := 4) (v := ?v4) rfl (by kernel_rfl) (by kernel_rfl) (by kernel_rfl) (fun _ _ _ h => h) (Or.inl ⟨by kernel_rfl, ?y4⟩) (by assumption) ?r4
      case y4 => (intro w hSw; (try dsimp only at hSw); go_simp; (try with_reducible rfl))
      try simp only [Act.put, List.getElem_toArray, List.getElem_cons_zero, List.getElem_cons_succ, List.setIfInBounds_toArray, List.set_cons_zero, List.set_cons_succ]
      refine wpAnyH_ready (rs := [3]) (by kernel_rfl) (by simp) ?_
      refine AllReadyH.cons rfl (fun K hK => ?_) AllReadyH.nil
      go_simp
      refine K13.out.mono ?_
      rintro e w6 ⟨rfl, rfl⟩
      go_wp2_with fail
      refine hK.out _ _ hHeld (fun _ => ?_)
      clear hK K
      refine wpAnyH_ready (rs := [5]) (by kernel_rfl) (by simp) ?_
      refine AllReadyH.cons rfl (fun K hK => ?_) AllReadyH.nil
      go_simp
      refine K14.out.mono ?_
      rintro e w6 ⟨rfl, rfl⟩
      go_wp2_with fail
      refine hK.out _ _ hHeld (fun _ => ?_)
      clear hK K
      refine wpAnyH_take (i := 6) (v := ?v6) rfl (by kernel_rfl) (by kernel_rfl) (by kernel_rfl) (fun _ _ _ h => h) (Or.inl ⟨by kernel_rfl, ?y6⟩) (by assumption) ?r6
      case y6 => (intro w hSw; (try dsimp only at hSw); go_simp; (try with_reducible rfl))
      try simp only [Act.put, List.getElem_toArray, List.getElem_cons_zero, List.getElem_cons_succ, List.setIfInBounds_toArray, List.set_cons_zero, List.set_cons_succ]
      refine wpAnyH_take (i := 7) (v := ?v7) rfl (by kernel_rfl) (by kernel_rfl) (by kernel_rfl) (fun _ _ _ h => h) (Or.inl ⟨by kernel_rfl, ?y7⟩) (by assumption) ?r7
      case y7 => (intro w hSw; (try dsimp only at hSw); go_simp; (try with_reducible rfl))
      try simp only [Act.put, List.getElem_toArray, List.getElem_cons_zero, List.getElem_cons_succ, List.setIfInBounds_toArray, List.set_cons_zero, List.set_cons_succ]
      refine wpAnyH_take (i := 8) (v := ?v8) rfl (by kernel_rfl) (by kernel_rfl) (by kernel_rfl) (fun _ _ _ h => h) (Or.inl ⟨by kernel_rfl, ?y8⟩) (by assumption) ?r8
      case y8 => (intro w hSw; (try dsimp only at hSw); go_simp; (try with_reducible rfl))
      try simp only [Act.put, List.getElem_toArray, List.getElem_cons_zero, List.getElem_cons_succ, List.setIfInBounds_toArray, List.set_cons_zero, List.set_cons_succ]
      refine wpAnyH_take (i := 9) (v := ?v9) rfl (by kernel_rfl) (by kernel_rfl) (by kernel_rfl) (fun _ _ _ h => h) (Or.inl ⟨by kernel_rfl, ?y9⟩) (by assumption) ?r9
      case y9 => (intro w hSw; (try dsimp only at hSw); go_simp; (try with_reducible rfl))
      try simp only [Act.put, List.getElem_toArray, List.getElem_cons_zero, List.getElem_cons_succ, List.setIfInBounds_toArray, List.set_cons_zero, List.set_cons_succ]
      refine wpAnyH_take (i := 10) (v := ?v10) rfl (by kernel_rfl) (by kernel_rfl) (by kernel_rfl) (fun _ _ _ h => h) (Or.inl ⟨by kernel_rfl, ?y10⟩) (by assumption) ?r10
      case y10 => (intro w hSw; (try dsimp only at hSw); have qc := q1 _ hSw; go_simp; (try with_reducible rfl))
      try simp only [Act.put, List.getElem_toArray, List.getElem_cons_zero, List.getElem_cons_succ, List.setIfInBounds_toArray, List.set_cons_zero, List.set_cons_succ]
      refine wpAnyH_take (i := 11) (v := ?v11) rfl (by kernel_rfl) (by kernel_rfl) (by kernel_rfl) (fun _ _ _ h => h) (Or.inl ⟨by kernel_rfl, ?y11⟩) (by assumption) ?r11
      case y11 => (intro w hSw; (try dsimp only at hSw); go_simp; (try with_reducible rfl))
      try simp only [Act.put, List.getElem_toArray, List.getElem_cons_zero, List.getElem_cons_succ, List.setIfInBounds_toArray, List.set_cons_zero, List.set_cons_succ]
      refine wpAnyH_ready (rs := [12]) (by kernel_rfl) (by simp) ?_
      refine AllReadyH.cons rfl (fun K hK => ?_) AllReadyH.nil
      go_simp
      refine K15.out.mono ?_
      rintro e w7 ⟨A9, c9, rfl, hs9, hb9⟩
      go_wp2_with fail
      replace hb9 : Below wr.heap.size wr w7 := (Below.refl wr.heap.size wr).drew.trans hb9
      refine hK.out _ _ hb9 (fun _ => ?_)
      clear hK K hHeld
      have q2' : ∀ w', Below w7.heap.size w7 w' → (convert 22 9 (.slice A7 m2 c7)).run Tryd.prog w' = .ok (.string S2) w' := fun w' h => q2 w' (hb9.trans (h.mono hb9.size))
      have q3' : ∀ w', Below w7.heap.size w7 w' → (convert 22 9 (.slice A8 m2 c8)).run Tryd.prog w' = .ok (.string S2) w' := fun w' h => q3 w' (hb9.trans (h.mono hb9.size))
      refine held_mono (S := fun w' => Below w7.heap.size w7 w') (fun w' h => hb9.trans (h.mono hb9.size)) _ _ _ _ ?_
      have hHeld : Below w7.heap.size w7 w7 := Below.refl _ _
      refine wpAnyH_take (i := 13) (v := ?v13) rfl (by kernel_rfl) (by kernel_rfl) (by kernel_rfl) (fun _ _ _ h => h) (Or.inl ⟨by kernel_rfl, ?y13⟩) (by assumption) ?r13
      case y13 => (intro w hSw; (try dsimp only at hSw); have qc := hs9 _ hSw; go_simp; (try with_reducible rfl))
      try simp only [Act.put, List.getElem_toArray, List.getElem_cons_zero, List.getElem_cons_succ, List.setIfInBounds_toArray, List.set_cons_zero, List.set_cons_succ]
      refine wpAnyH_take (i := 14) (v := ?v14) rfl (by kernel_rfl) (by kernel_rfl) (by kernel_rfl) (fun _ _ _ h => h) (Or.inl ⟨by kernel_rfl, ?y14⟩) (by assumption) ?r14
      case y14 => (intro w hSw; (try dsimp only at hSw); go_simp; (try with_reducible rfl))
      try simp only [Act.put, List.getElem_toArray, List.getElem_cons_zero, List.getElem_cons_succ, List.setIfInBounds_toArray, List.set_cons_zero, List.set_cons_succ]
      refine wpAnyH_take (i := 15) (v := ?v15) rfl (by kernel_rfl) (by kernel_rfl) (by kernel_rfl) (fun _ _ _ h => h) (Or.inl ⟨by kernel_rfl, ?y15⟩) (by assumption) ?r15
      case y15 => (intro w hSw; (try dsimp only at hSw); go_simp; (try with_reducible rfl))
      try simp only [Act.put, List.getElem_toArray, List.getElem_cons_zero, List.getElem_cons_succ, List.setIfInBounds_toArray, List.set_cons_zero, List.set_cons_succ]
      refine wpAnyH_take (i := 16) (v := ?v16) rfl (by kernel_rfl) (by kernel_rfl) (by kernel_rfl) (fun _ _ _ h => h) (Or.inl ⟨by kernel_rfl, ?y16⟩) (by assumption) ?r16
      case y16 => (intro w hSw; (try dsimp only at hSw); go_simp; (try with_reducible rfl))
      try simp only [Act.put, List.getElem_toArray, List.getElem_cons_zero, List.getElem_cons_succ, List.setIfInBounds_toArray, List.set_cons_zero, List.set_cons_succ]
      refine wpAnyH_take (i := 17) (v := ?v17) rfl (by kernel_rfl) (by kernel_rfl) (by kernel_rfl) (fun _ _ _ h => h) (Or.inl ⟨by kernel_rfl, ?y17⟩) (by assumption) ?r17
      case y17 => (intro w hSw; (try dsimp only at hSw); go_simp; (try with_reducible rfl))
      try simp only [Act.put, List.getElem_toArray, List.getElem_cons_zero, List.getElem_cons_succ, List.setIfInBounds_toArray, List.set_cons_zero, List.set_cons_succ]
      refine wpAnyH_take (i := 18) (v := ?v18) rfl (by kernel_rfl) (by kernel_rfl) (by kernel_rfl) (fun _ _ _ h => h) (Or.inl ⟨by kernel_rfl, ?y18⟩) (by assumption) ?r18
      case y18 => (intro w hSw; (try dsimp only at hSw); have qc := q2' _ hSw; go_simp; (try with_reducible rfl))
      try simp only [Act.put, List.getElem_toArray, List.getElem_cons_zero, List.getElem_cons_succ, List.setIfInBounds_toArray, List.set_cons_zero, List.set_cons_succ]
      refine wpAnyH_take (i := 19) (v := ?v19) rfl (by kernel_rfl) (by kernel_rfl) (by kernel_rfl) (fun _ _ _ h => h) (Or.inl ⟨by kernel_rfl, ?y19⟩) (by assumption) ?r19
      case y19 => (intro w hSw; (try dsimp only at hSw); go_simp; (try with_reducible rfl))
      try simp only [Act.put, List.getElem_toArray, List.getElem_cons_zero, List.getElem_cons_succ, List.setIfInBounds_toArray, List.set_cons_zero, List.set_cons_succ]
      refine wpAnyH_take (i := 20) (v := ?v20) rfl (by kernel_rfl) (by kernel_rfl) (by kernel_rfl) (fun _ _ _ h => h) (Or.inl ⟨by kernel_rfl, ?y20⟩) (by assumption) ?r20
      case y20 => (intro w hSw; (try dsimp only at hSw); have qc := q3' _ hSw; go_simp; (try with_reducible rfl))
      try simp only [Act.put, List.getElem_toArray, List.getElem_cons_zero, List.getElem_cons_succ, List.setIfInBounds_toArray, List.set_cons_zero, List.set_cons_succ]
      refine wpAnyH_take (i := 21) (v := ?v21) rfl (by kernel_rfl) (by kernel_rfl) (by kernel_rfl) (fun _ _ _ h => h) (Or.inl ⟨by kernel_rfl, ?y21⟩) (by assumption) ?r21
      case y21 => (intro w hSw; (try dsimp only at hSw); go_simp; (try with_reducible rfl))
      try simp only [Act.put, List.getElem_toArray, List.getElem_cons_zero, List.getElem_cons_succ, List.setIfInBounds_toArray, List.set_cons_zero, List.set_cons_succ]
      refine wpAnyH_take (i := 22) (v := ?v22) rfl (by kernel_rfl) (by kernel_rfl) (by kernel_rfl) (fun _ _ _ h => h) (Or.inl ⟨by kernel_rfl, ?y22⟩) (by assumption) ?r22
      case y22 => (intro w hSw; (try dsimp only at hSw); go_simp; (try with_reducible rfl))
      try simp only [Act.put, List.getElem_toArray, List.getElem_cons_zero, List.getElem_cons_succ, List.setIfInBounds_toArray, List.set_cons_zero, List.set_cons_succ]
      refine wpAnyH_take (i := 23) (v := ?v23) rfl (by kernel_rfl) (by kernel_rfl) (by kernel_rfl) (fun _ _ _ h => h) (Or.inl ⟨by kernel_rfl, ?y23⟩) (by assumption) ?r23
      case y23 => (intro w hSw; (try dsimp only at hSw); go_simp; (try with_reducible rfl))
      try simp only [Act.put, List.getElem_toArray, List.getElem_cons_zero, List.getElem_cons_succ, List.setIfInBounds_toArray, List.set_cons_zero, List.set_cons_succ]
      refine wpAnyH_take (i := 24) (v := ?v24) rfl (by kernel_rfl) (by kernel_rfl) (by kernel_rfl) (fun _ _ _ h => h) (Or.inl ⟨by kernel_rfl, ?y24⟩) (by assumption) ?r24
      case y24 => (intro w hSw; (try dsimp only at hSw); go_simp; (try with_reducible rfl))
      try simp only [Act.put, List.getElem_toArray, List.getElem_cons_zero, List.getElem_cons_succ, List.setIfInBounds_toArray, List.set_cons_zero, List.set_cons_succ]
      refine wpAnyH_take (i := 25) (v := ?v25) rfl (by kernel_rfl) (by kernel_rfl) (by kernel_rfl) (fun _ _ _ h => h) (Or.inl ⟨by kernel_rfl, ?y25⟩) (by assumption) ?r25
      case y25 => (intro w hSw; (try dsimp only at hSw); go_simp; (try with_reducible rfl))
      try simp only [Act.put, List.getElem_toArray, List.getElem_cons_zero, List.getElem_cons_succ, List.setIfInBounds_toArray, List.set_cons_zero, List.set_cons_succ]
      refine wpAnyH_take (i := 26) (v := ?v26) rfl (by kernel_rfl) (by kernel_rfl) (by kernel_rfl) (fun _ _ _ h => h) (Or.inl ⟨by kernel_rfl, ?y26⟩) (by assumption) ?r26
      case y26 => (intro w hSw; (try dsimp only at hSw); go_simp; (try with_reducible rfl))
      try simp only [Act.put, List.getElem_toArray, List.getElem_cons_zero, List.getElem_cons_succ, List.setIfInBounds_toArray, List.set_cons_zero, List.set_cons_succ]
      refine wpAnyH_take (i := 27) (v := ?v27) rfl (by kernel_rfl) (by kernel_rfl) (by kernel_rfl) (fun _ _ _ h => h) (Or.inl ⟨by kernel_rfl, ?y27⟩) (by assumption) ?r27
      case y27 => (intro w hSw; (try dsimp only at hSw); go_simp; (try with_reducible rfl))
      try simp only [Act.put, List.getElem_toArray, List.getElem_cons_zero, List.getElem_cons_succ, List.setIfInBounds_toArray, List.set_cons_zero, List.set_cons_succ]
      refine wpAnyH_take (i := 28) (v := ?v28) rfl (by kernel_rfl) (by kernel_rfl) (by kernel_rfl) (fun _ _ _ h => h) (Or.inl ⟨by kernel_rfl, ?y28⟩) (by assumption) ?r28
      case y28 => (intro w hSw; (try dsimp only at hSw); go_simp; (try with_reducible rfl))
      try simp only [Act.put, List.getElem_toArray, List.getElem_cons_zero, List.getElem_cons_succ, List.setIfInBounds_toArray, List.set_cons_zero, List.set_cons_succ]
      refine wpAnyH_done (by kernel_rfl) ?_ _
      go_wp2
      go_ret
      exact ⟨rfl, hbw.trans (hb9.mono sw)⟩
end Go.Proofs.YtjilifodmmhnkaaDoor
