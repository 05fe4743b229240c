/- TypesMore: its walk, for any two texts. Conditions: the texts lie in memory; the tables lie as the program lays them. -/
import Derived.Test.YtfcpabhkconjmaaGreatDoorMO
import Derived.Test.YtfcpabhkconjmaaGreatDoorZb
namespace Go.Proofs.YtfcpabhkconjmaaGreatDoor
open Go.RowKit
set_option maxRecDepth 100000
set_option linter.unusedSimpArgs false
set_option linter.unusedVariables false

/-- is a name of those ahead of the k-th one the i-th one? -/
def twB (ns : List (List Nat)) (i k : Nat) : Bool := (List.range k).any fun b => decide (ns[i]? = ns[b]?)
/-- is any name ahead of the i-th one there twice? -/
def twA (ns : List (List Nat)) (i : Nat) : Bool := (List.range i).any fun a => twB ns a a
theorem twB_succ (ns : List (List Nat)) (i k : Nat) : twB ns i (k + 1) = (twB ns i k || decide (ns[i]? = ns[k]?)) := by
  unfold twB
  rw [List.range_succ, List.any_append]
  simp
theorem twA_succ (ns : List (List Nat)) (i : Nat) : twA ns (i + 1) = (twA ns i || twB ns i i) := by
  unfold twA
  rw [List.range_succ, List.any_append]
  simp
theorem twA_all (ns : List (List Nat)) : twA ns ns.length = !decide ns.Nodup := by
  rw [Bool.eq_iff_iff]
  simp only [twA, twB, List.any_eq_true, List.mem_range, decide_eq_true_eq, Bool.not_eq_true', decide_eq_false_iff_not]
  rw [List.nodup_iff_pairwise_ne, List.pairwise_iff_getElem]
  constructor
  · rintro ⟨a, ha, b, hb, he⟩ h
    rw [List.getElem?_eq_getElem ha, List.getElem?_eq_getElem (by omega)] at he
    exact h b a (by omega) ha hb (Option.some.inj he).symm
  · intro h
    refine Classical.byContradiction fun hn => h fun i j hi hj hij e => hn ⟨j, hj, i, hij, ?_⟩
    rw [List.getElem?_eq_getElem hi, List.getElem?_eq_getElem hj, e]
/-- Front, of any text -/
theorem frontZ (A : Option Addr) (l : List Nat) (n c : Nat) (w : World) (hn : l.length = n) (hc : n ≤ c) (hcm : c ≤ maxLen) (hl : Lies w w.heap.size A c (bts l)) (hy : Byn l) (ht : Tab w) :
    ∃ (fs : List Fu) (err place : Int), (err = 0 → progM (fs.map toXf) = none ∧ fs.length ≤ 64) ∧ (∀ f ∈ fs, WF f) ∧
      Calls Tryz.prog 14 #[.slice A n c] w fun e w' => ∃ V, e = .returned (.tuple #[.agg #[V], .int .i64 err, .int .i64 place]) ∧ FusC w' (Rng w.heap.size w'.heap.size) fs V ∧ Below w.heap.size w w' := by
  rcases hp : parsed l with ⟨err, fs, place⟩
  have hw := parsed_well l
  have hok := parsed_ok l
  rw [hp] at hw hok
  have K := frontC A l n c w hn hc hcm hl hy ht err place fs hp hok
  refine ⟨(frontR err fs place).funcs, (frontR err fs place).err, (frontR err fs place).place, ?_, ?_, K⟩
  · intro h
    have hz : progM ((frontR err fs place).funcs.map toXf) = none := by
      unfold frontR at h ⊢
      by_cases h0 : err = 0
      · rw [if_pos h0] at h ⊢
        by_cases h1 : (checkM (fs.map toXf)).1 = 0
        · rw [if_pos h1]
          exact (checkM_zero _).1 h1
        · rw [if_neg h1] at h
          exact absurd h h1
      · rw [if_neg h0] at h
        exact absurd (Int.ofNat.inj h) h0
    exact ⟨hz, by have := (progM_parts hz).1; simpa using this⟩
  · intro f hf
    unfold frontR at hf
    by_cases h0 : err = 0
    · rw [if_pos h0] at hf
      by_cases h1 : (checkM (fs.map toXf)).1 = 0
      · rw [if_pos h1] at hf
        exact hw f hf
      · rw [if_neg h1] at hf
        cases hf
    · rw [if_neg h0] at hf
      cases hf
theorem names_get (l : List Fu) (i : Nat) (f : Fu) (h : l[i]? = some f) : (l.map (·.name))[i]? = some f.name := by rw [List.getElem?_map, h]; rfl
theorem toXf_names (l : List Fu) : (l.map toXf).map (·.name) = l.map (·.name) := by rw [List.map_map]; rfl

set_option maxHeartbeats 3200000 in
theorem more_walk (A A' : Option Addr) (l l' : List Nat) (c c' : Nat) (w : World) (hc : l.length ≤ c) (hcm : c ≤ maxLen) (hl : Lies w w.heap.size A c (bts l)) (hy : Byn l) (hc' : l'.length ≤ c') (hcm' : c' ≤ maxLen) (hl' : Lies w w.heap.size A' c' (bts l')) (hy' : Byn l') (ht : Tab w) :
    Calls Tryz.prog 4 #[.slice A l.length c, .slice A' l'.length c'] w fun e w' => e = .returned (.bool true) ∧ Below w.heap.size w w' := by
  have HT := Lib.hid ht
  have hpos := ht.1
  have K := Lib.hid (head5_true w ht)
  have HL : Hid (Lies w w.heap.size A c (bts l) ∧ Lies w w.heap.size A' c' (bts l')) := ⟨hl, hl'⟩
  have HY : Hid (Byn l ∧ Byn l') := ⟨hy, hy'⟩
  have HCm : Hid (c ≤ maxLen ∧ c' ≤ maxLen) := ⟨hcm, hcm'⟩
  unfold maxLen at hcm hcm'
  clear ht hl hy hl' hy'
  go_enter Tryz.func4, Tryz.ntmps4
  go_wp2_with fail
  (with_reducible refine K.out.mono ?_)
  clear K
  rintro e w1 ⟨rfl, hb1⟩
  have BW1 := Lib.hid hb1
  have s1 := hb1.size
  clear hb1
  obtain ⟨fa, ea, pa, ga1, ga2, K⟩ := frontZ A l l.length c w1 rfl hc HCm.out.1 ((HL.out.1.below BW1.out).more s1) HY.out.1 (HT.out.below BW1.out hpos)
  have HA : Hid ((ea = 0 → progM (fa.map toXf) = none ∧ fa.length ≤ 64) ∧ ∀ f ∈ fa, WF f) := ⟨ga1, ga2⟩
  have HK := Lib.hid K
  clear ga1 ga2 K
  go_wp2_with fail
  (with_reducible refine HK.out.mono ?_)
  clear HK
  rintro e w2 ⟨V, rfl, hf2, hb2⟩
  obtain ⟨A2, c2, rfl⟩ := fusC_slice5 hf2
  have s2 := hb2.size
  have b2a := below_alloc w2 (.cells #[.slice A2 fa.length c2] 26)
  have s2a := b2a.size
  have BW2 := Lib.hid ((BW1.out.trans (hb2.mono s1)).trans (b2a.mono (by omega)))
  have HF2 : Hid (FusC w2 (· < w2.heap.size) fa (.slice A2 fa.length c2)) := hf2.more fun k hk => hk.2
  have HV2 := Lib.hid (heap_alloc_new w2 (.cells #[.slice A2 fa.length c2] 26))
  have HB2a := Lib.hid b2a
  clear hf2 hb2 b2a
  obtain ⟨fb, eb, pb, gb1, gb2, K⟩ := frontZ A' l' l'.length c' (w2.alloc (.cells #[.slice A2 fa.length c2] 26)) rfl hc' HCm.out.2 ((HL.out.2.below BW2.out).more BW2.out.size) HY.out.2 (HT.out.below BW2.out hpos)
  have HB : Hid ((eb = 0 → progM (fb.map toXf) = none ∧ fb.length ≤ 64) ∧ ∀ f ∈ fb, WF f) := ⟨gb1, gb2⟩
  have HK := Lib.hid K
  clear gb1 gb2 K
  go_wp2_with fail
  generalize w2.alloc (.cells #[.slice A2 fa.length c2] 26) = w2a at *
  (with_reducible refine HK.out.mono ?_)
  clear HK
  rintro e w3 ⟨V, rfl, hf3, hb3⟩
  obtain ⟨A3, c3, rfl⟩ := fusC_slice5 hf3
  have s3 := hb3.size
  have b3a := below_alloc w3 (.cells #[.slice A3 fb.length c3] 26)
  have s3a := b3a.size
  have BW3 := Lib.hid ((BW2.out.trans (hb3.mono BW2.out.size)).trans (b3a.mono (Nat.le_trans BW2.out.size s3)))
  have HF3 : Hid (FusC w3 (· < w3.heap.size) fb (.slice A3 fb.length c3)) := hf3.more fun k hk => hk.2
  have HV3 := Lib.hid (heap_alloc_new w3 (.cells #[.slice A3 fb.length c3] 26))
  have HB3 : Hid (Below w2a.heap.size w2a w3) := hb3
  have HB3a := Lib.hid b3a
  clear hf3 hb3 b3a
  by_cases he : ea = 0
  · have q1 : (ea != 0) = false := by rw [he]; rfl
    by_cases he' : eb = 0
    · have q2 : (eb != 0) = false := by rw [he']; rfl
      have HPa := Lib.hid (HA.out.1 he)
      have HPb := Lib.hid (HB.out.1 he')
      have HN : Hid (fa.length ≤ 64 ∧ fb.length ≤ 64) := ⟨HPa.out.2, HPb.out.2⟩
      clear he he'
      go_upto_region 6 with fail
      generalize w3.alloc (.cells #[.slice A3 fb.length c3] 26) = w4 at *
      have l2 : w2.heap.size < w2a.heap.size := (Array.getElem?_eq_some_iff.1 HV2.out).1
      have l3 : w3.heap.size < w4.heap.size := (Array.getElem?_eq_some_iff.1 HV3.out).1
      have HVa := Lib.hid ((HB3a.out.block w2.heap.size (by omega)).trans ((HB3.out.block _ l2).trans HV2.out))
      have HVb := Lib.hid HV3.out
      have HS : Hid (∀ u, Below w4.heap.size w4 u → u.cell? ⟨w2.heap.size, 0, none⟩ = some (.slice A2 fa.length c2) ∧ u.cell? ⟨w3.heap.size, 0, none⟩ = some (.slice A3 fb.length c3)) := fun u hu => ⟨by rw [Lib.cell_of_heap ((hu.block _ (by omega)).trans HVa.out)]; rfl, by rw [Lib.cell_of_heap ((hu.block _ (by omega)).trans HVb.out)]; rfl⟩
      have hfa : FusC w4 (· < w4.heap.size) fa (.slice A2 fa.length c2) := (HF2.out.same fun k hk => (HB3a.out.block k (by omega)).trans ((HB3.out.block k (by omega)).trans (HB2a.out.block k hk))).more fun k hk => by omega
      have hfb : FusC w4 (· < w4.heap.size) fb (.slice A3 fb.length c3) := (HF3.out.same fun k hk => HB3a.out.block k hk).more fun k hk => by omega
      obtain ⟨ka, hka, hra, hfa⟩ := hfa
      obtain ⟨kb, hkb, hrb, hfb⟩ := hfb
      have HRa := Lib.hid hra
      have HRb := Lib.hid hrb
      have HLa := Lib.hid (fusC_len fa ka hka)
      have HLb := Lib.hid (fusC_len fb kb hkb)
      have HOa := Lib.hid (fusC_one fa ka hka hfa)
      have HOb := Lib.hid (fusC_one fb kb hkb hfb)
      have HEnd : Hid (∀ V u, Rg w4.heap.size w4 V (fa.length + fb.length) (fusC fa ka ++ fusC fb kb) none u → FusC u (· < u.heap.size) (fa ++ fb) V) := fun V u h => h.fus hka hkb hfa hfb
      have hw4 : w.heap.size ≤ w4.heap.size := BW3.out.size
      have R0 := Lib.hid (Rg.start w4).drew
      clear hfa hfb hra hrb hka hkb HF2 HF3 HVa HVb HV2 HV3 HB2a HB3 HB3a
      go_cut [12] (fun p wx => ∃ (g : Nat) (A7 : Option Addr) (c7 : Nat), p = .pointer (some ⟨g, 0, none⟩) ∧ w4.heap.size ≤ g ∧ Hid (wx.cell? ⟨g, 0, none⟩ = some (.slice A7 (fa.length + fb.length) c7)) ∧ Hid (Rg w4.heap.size w4 (.slice A7 (fa.length + fb.length) c7) (fa.length + fb.length) (fusC fa ka ++ fusC fb kb) none wx))
      case first =>
          refine wp_region_held_drew (S := fun u => u.cell? ⟨w2.heap.size, 0, none⟩ = some (.slice A2 fa.length c2) ∧ u.cell? ⟨w3.heap.size, 0, none⟩ = some (.slice A3 fb.length c3)) (by kernel_rfl) (HS.out _ R0.out.bl) (fun hHeld => ?_)
          refine wpAnyH_take (i := 1) (v := ?v1) rfl (by kernel_rfl) (by kernel_rfl) (by kernel_rfl) (fun _ _ _ h => h) (Or.inl ⟨by kernel_rfl, ?y1⟩) (by assumption) ?r1
          case y1 => (intro w hSw; (try dsimp only at hSw); obtain ⟨s1, s2⟩ := hSw; go_simp; (try with_reducible rfl))
          try simp only [Act.put, List.getElem_toArray, List.getElem_cons_zero, List.getElem_cons_succ, List.setIfInBounds_toArray, List.set_cons_zero, List.set_cons_succ]
          refine wpAnyH_take (i := 2) (v := ?v2) rfl (by kernel_rfl) (by kernel_rfl) (by kernel_rfl) (fun _ _ _ h => h) (Or.inl ⟨by kernel_rfl, ?y2⟩) (by assumption) ?r2
          case y2 => (intro w hSw; (try dsimp only at hSw); obtain ⟨s1, s2⟩ := hSw; go_simp; (try with_reducible rfl))
          try simp only [Act.put, List.getElem_toArray, List.getElem_cons_zero, List.getElem_cons_succ, List.setIfInBounds_toArray, List.set_cons_zero, List.set_cons_succ]
          refine wpAnyH_take (i := 4) (v := ?v3) rfl (by kernel_rfl) (by kernel_rfl) (by kernel_rfl) (fun _ _ _ h => h) (Or.inl ⟨by kernel_rfl, ?y3⟩) (by assumption) ?r3
          case y3 => (intro w hSw; (try dsimp only at hSw); obtain ⟨s1, s2⟩ := hSw; go_simp; (try with_reducible rfl))
          try simp only [Act.put, List.getElem_toArray, List.getElem_cons_zero, List.getElem_cons_succ, List.setIfInBounds_toArray, List.set_cons_zero, List.set_cons_succ]
          refine wpAnyH_take (i := 5) (v := ?v4) rfl (by kernel_rfl) (by kernel_rfl) (by kernel_rfl) (fun _ _ _ h => h) (Or.inl ⟨by kernel_rfl, ?y4⟩) (by assumption) ?r4
          case y4 => (intro w hSw; (try dsimp only at hSw); obtain ⟨s1, s2⟩ := hSw; go_simp; (try with_reducible rfl))
          try simp only [Act.put, List.getElem_toArray, List.getElem_cons_zero, List.getElem_cons_succ, List.setIfInBounds_toArray, List.set_cons_zero, List.set_cons_succ]
          generalize w4.drew = wd at *
          refine wpAnyH_ready (rs := [0, 8]) (by kernel_rfl) (by simp) ?_
          refine AllReadyH.cons rfl (fun K hK => ?_) (AllReadyH.cons rfl (fun K hK => ?_) AllReadyH.nil)
          · skip
            go_simp
            have R5 := Lib.hid R0.out.row
            refine hK.out _ _ (HS.out _ R5.out.bl) (fun hHeld => ?_)
            clear hK K
            generalize wd.alloc (.cells #[] 36) = v5 at *
            refine wpAnyH_ready (rs := [3, 8]) (by kernel_rfl) (by simp) ?_
            refine AllReadyH.cons rfl (fun K hK => ?_) (AllReadyH.cons rfl (fun K hK => ?_) AllReadyH.nil)
            · skip
              rw [if_pos (by rfl)]
              refine R5.out.put (.tmp 38) (.tmp 40) rfl rfl A2 fa.length c2 rfl (fusC fa ka) HRa.out HLa.out HOa.out (by have := HN.out.1; omega) fa.length (Nat.zero_add _) (fusC fa ka) rfl ?_
              intro B6 d6 v6 hR6
              have R6 := Lib.hid hR6
              clear hR6
              refine hK.out _ _ (HS.out _ R6.out.bl) (fun hHeld => ?_)
              clear hK K
              try simp only [Act.put, List.getElem_toArray, List.getElem_cons_zero, List.getElem_cons_succ, List.setIfInBounds_toArray, List.set_cons_zero, List.set_cons_succ]
              refine wpAnyH_ready (rs := [6, 8]) (by kernel_rfl) (by simp) ?_
              refine AllReadyH.cons rfl (fun K hK => ?_) (AllReadyH.cons rfl (fun K hK => ?_) AllReadyH.nil)
              · skip
                rw [if_pos (by rfl)]
                refine R6.out.put (.tmp 41) (.tmp 43) rfl rfl A3 fb.length c3 rfl (fusC fb kb) HRb.out HLb.out HOb.out (by have := HN.out; omega) (fa.length + fb.length) rfl (fusC fa ka ++ fusC fb kb) rfl ?_
                intro B7 d7 v7 hR7
                have R7 := Lib.hid hR7
                clear hR7
                refine hK.out _ _ (HS.out _ R7.out.bl) (fun hHeld => ?_)
                clear hK K
                try simp only [Act.put, List.getElem_toArray, List.getElem_cons_zero, List.getElem_cons_succ, List.setIfInBounds_toArray, List.set_cons_zero, List.set_cons_succ]
                refine wpAnyH_take (i := 7) (v := ?v8) rfl (by kernel_rfl) (by kernel_rfl) (by kernel_rfl) (fun _ _ _ h => h) (Or.inl ⟨by kernel_rfl, ?y8⟩) (by assumption) ?r8
                case y8 => (intro w hSw; (try dsimp only at hSw); obtain ⟨s1, s2⟩ := hSw; go_simp; (try with_reducible rfl))
                try simp only [Act.put, List.getElem_toArray, List.getElem_cons_zero, List.getElem_cons_succ, List.setIfInBounds_toArray, List.set_cons_zero, List.set_cons_succ]
                refine wpAnyH_ready (rs := [8]) (by kernel_rfl) (by simp) ?_
                refine AllReadyH.cons rfl (fun K hK => ?_) AllReadyH.nil
                go_simp
                have R9 := Lib.hid R7.out.made
                refine hK.out _ _ (HS.out _ R9.out.bl) (fun hHeld => ?_)
                clear hK K
                generalize v7.alloc (.cells #[.slice none 0 0] 26) = v9 at *
                refine wpAnyH_ready (rs := [9]) (by kernel_rfl) (by simp) ?_
                refine AllReadyH.cons rfl (fun K hK => ?_) AllReadyH.nil
                rw [if_pos (by rfl)]
                refine R9.out.store (.tmp 12) (.tmp 45) rfl rfl rfl rfl ?_
                intro uf hRf hcf
                have HRf := Lib.hid hRf
                have HGl := Lib.hid (R9.out.var _ rfl).1
                have HCf := Lib.hid hcf
                refine hK.out _ _ (HS.out _ HRf.out.bl) (fun hHeld => ?_)
                clear hK K hRf hHeld hcf
                refine wpAnyH_done (by kernel_rfl) ?_ _
                go_wp2_with fail
                go_meet
                exact ⟨_, _, _, rfl, HGl.out, HCf, HRf⟩
              · skip
                go_simp
                have R10 := Lib.hid R6.out.made
                refine hK.out _ _ (HS.out _ R10.out.bl) (fun hHeld => ?_)
                clear hK K
                generalize v6.alloc (.cells #[.slice none 0 0] 26) = v10 at *
                refine wpAnyH_ready (rs := [6]) (by kernel_rfl) (by simp) ?_
                refine AllReadyH.cons rfl (fun K hK => ?_) AllReadyH.nil
                rw [if_pos (by rfl)]
                refine R10.out.put (.tmp 41) (.tmp 43) rfl rfl A3 fb.length c3 rfl (fusC fb kb) HRb.out HLb.out HOb.out (by have := HN.out; omega) (fa.length + fb.length) rfl (fusC fa ka ++ fusC fb kb) rfl ?_
                intro B11 d11 v11 hR11
                have R11 := Lib.hid hR11
                clear hR11
                refine hK.out _ _ (HS.out _ R11.out.bl) (fun hHeld => ?_)
                clear hK K
                try simp only [Act.put, List.getElem_toArray, List.getElem_cons_zero, List.getElem_cons_succ, List.setIfInBounds_toArray, List.set_cons_zero, List.set_cons_succ]
                refine wpAnyH_take (i := 7) (v := ?v12) rfl (by kernel_rfl) (by kernel_rfl) (by kernel_rfl) (fun _ _ _ h => h) (Or.inl ⟨by kernel_rfl, ?y12⟩) (by assumption) ?r12
                case y12 => (intro w hSw; (try dsimp only at hSw); obtain ⟨s1, s2⟩ := hSw; go_simp; (try with_reducible rfl))
                try simp only [Act.put, List.getElem_toArray, List.getElem_cons_zero, List.getElem_cons_succ, List.setIfInBounds_toArray, List.set_cons_zero, List.set_cons_succ]
                refine wpAnyH_ready (rs := [9]) (by kernel_rfl) (by simp) ?_
                refine AllReadyH.cons rfl (fun K hK => ?_) AllReadyH.nil
                rw [if_pos (by rfl)]
                refine R11.out.store (.tmp 12) (.tmp 45) rfl rfl rfl rfl ?_
                intro uf hRf hcf
                have HRf := Lib.hid hRf
                have HGl := Lib.hid (R11.out.var _ rfl).1
                have HCf := Lib.hid hcf
                refine hK.out _ _ (HS.out _ HRf.out.bl) (fun hHeld => ?_)
                clear hK K hRf hHeld hcf
                refine wpAnyH_done (by kernel_rfl) ?_ _
                go_wp2_with fail
                go_meet
                exact ⟨_, _, _, rfl, HGl.out, HCf, HRf⟩
            · skip
              go_simp
              have R13 := Lib.hid R5.out.made
              refine hK.out _ _ (HS.out _ R13.out.bl) (fun hHeld => ?_)
              clear hK K
              generalize v5.alloc (.cells #[.slice none 0 0] 26) = v13 at *
              refine wpAnyH_ready (rs := [3]) (by kernel_rfl) (by simp) ?_
              refine AllReadyH.cons rfl (fun K hK => ?_) AllReadyH.nil
              rw [if_pos (by rfl)]
              refine R13.out.put (.tmp 38) (.tmp 40) rfl rfl A2 fa.length c2 rfl (fusC fa ka) HRa.out HLa.out HOa.out (by have := HN.out.1; omega) fa.length (Nat.zero_add _) (fusC fa ka) rfl ?_
              intro B14 d14 v14 hR14
              have R14 := Lib.hid hR14
              clear hR14
              refine hK.out _ _ (HS.out _ R14.out.bl) (fun hHeld => ?_)
              clear hK K
              try simp only [Act.put, List.getElem_toArray, List.getElem_cons_zero, List.getElem_cons_succ, List.setIfInBounds_toArray, List.set_cons_zero, List.set_cons_succ]
              refine wpAnyH_ready (rs := [6]) (by kernel_rfl) (by simp) ?_
              refine AllReadyH.cons rfl (fun K hK => ?_) AllReadyH.nil
              rw [if_pos (by rfl)]
              refine R14.out.put (.tmp 41) (.tmp 43) rfl rfl A3 fb.length c3 rfl (fusC fb kb) HRb.out HLb.out HOb.out (by have := HN.out; omega) (fa.length + fb.length) rfl (fusC fa ka ++ fusC fb kb) rfl ?_
              intro B15 d15 v15 hR15
              have R15 := Lib.hid hR15
              clear hR15
              refine hK.out _ _ (HS.out _ R15.out.bl) (fun hHeld => ?_)
              clear hK K
              try simp only [Act.put, List.getElem_toArray, List.getElem_cons_zero, List.getElem_cons_succ, List.setIfInBounds_toArray, List.set_cons_zero, List.set_cons_succ]
              refine wpAnyH_take (i := 7) (v := ?v16) rfl (by kernel_rfl) (by kernel_rfl) (by kernel_rfl) (fun _ _ _ h => h) (Or.inl ⟨by kernel_rfl, ?y16⟩) (by assumption) ?r16
              case y16 => (intro w hSw; (try dsimp only at hSw); obtain ⟨s1, s2⟩ := hSw; go_simp; (try with_reducible rfl))
              try simp only [Act.put, List.getElem_toArray, List.getElem_cons_zero, List.getElem_cons_succ, List.setIfInBounds_toArray, List.set_cons_zero, List.set_cons_succ]
              refine wpAnyH_ready (rs := [9]) (by kernel_rfl) (by simp) ?_
              refine AllReadyH.cons rfl (fun K hK => ?_) AllReadyH.nil
              rw [if_pos (by rfl)]
              refine R15.out.store (.tmp 12) (.tmp 45) rfl rfl rfl rfl ?_
              intro uf hRf hcf
              have HRf := Lib.hid hRf
              have HGl := Lib.hid (R15.out.var _ rfl).1
              have HCf := Lib.hid hcf
              refine hK.out _ _ (HS.out _ HRf.out.bl) (fun hHeld => ?_)
              clear hK K hRf hHeld hcf
              refine wpAnyH_done (by kernel_rfl) ?_ _
              go_wp2_with fail
              go_meet
              exact ⟨_, _, _, rfl, HGl.out, HCf, HRf⟩
          · skip
            go_simp
            have R17 := Lib.hid R0.out.made
            refine hK.out _ _ (HS.out _ R17.out.bl) (fun hHeld => ?_)
            clear hK K
            generalize wd.alloc (.cells #[.slice none 0 0] 26) = v17 at *
            refine wpAnyH_ready (rs := [0]) (by kernel_rfl) (by simp) ?_
            refine AllReadyH.cons rfl (fun K hK => ?_) AllReadyH.nil
            go_simp
            have R18 := Lib.hid R17.out.row
            refine hK.out _ _ (HS.out _ R18.out.bl) (fun hHeld => ?_)
            clear hK K
            generalize v17.alloc (.cells #[] 36) = v18 at *
            refine wpAnyH_ready (rs := [3]) (by kernel_rfl) (by simp) ?_
            refine AllReadyH.cons rfl (fun K hK => ?_) AllReadyH.nil
            rw [if_pos (by rfl)]
            refine R18.out.put (.tmp 38) (.tmp 40) rfl rfl A2 fa.length c2 rfl (fusC fa ka) HRa.out HLa.out HOa.out (by have := HN.out.1; omega) fa.length (Nat.zero_add _) (fusC fa ka) rfl ?_
            intro B19 d19 v19 hR19
            have R19 := Lib.hid hR19
            clear hR19
            refine hK.out _ _ (HS.out _ R19.out.bl) (fun hHeld => ?_)
            clear hK K
            try simp only [Act.put, List.getElem_toArray, List.getElem_cons_zero, List.getElem_cons_succ, List.setIfInBounds_toArray, List.set_cons_zero, List.set_cons_succ]
            refine wpAnyH_ready (rs := [6]) (by kernel_rfl) (by simp) ?_
            refine AllReadyH.cons rfl (fun K hK => ?_) AllReadyH.nil
            rw [if_pos (by rfl)]
            refine R19.out.put (.tmp 41) (.tmp 43) rfl rfl A3 fb.length c3 rfl (fusC fb kb) HRb.out HLb.out HOb.out (by have := HN.out; omega) (fa.length + fb.length) rfl (fusC fa ka ++ fusC fb kb) rfl ?_
            intro B20 d20 v20 hR20
            have R20 := Lib.hid hR20
            clear hR20
            refine hK.out _ _ (HS.out _ R20.out.bl) (fun hHeld => ?_)
            clear hK K
            try simp only [Act.put, List.getElem_toArray, List.getElem_cons_zero, List.getElem_cons_succ, List.setIfInBounds_toArray, List.set_cons_zero, List.set_cons_succ]
            refine wpAnyH_take (i := 7) (v := ?v21) rfl (by kernel_rfl) (by kernel_rfl) (by kernel_rfl) (fun _ _ _ h => h) (Or.inl ⟨by kernel_rfl, ?y21⟩) (by assumption) ?r21
            case y21 => (intro w hSw; (try dsimp only at hSw); obtain ⟨s1, s2⟩ := hSw; go_simp; (try with_reducible rfl))
            try simp only [Act.put, List.getElem_toArray, List.getElem_cons_zero, List.getElem_cons_succ, List.setIfInBounds_toArray, List.set_cons_zero, List.set_cons_succ]
            refine wpAnyH_ready (rs := [9]) (by kernel_rfl) (by simp) ?_
            refine AllReadyH.cons rfl (fun K hK => ?_) AllReadyH.nil
            rw [if_pos (by rfl)]
            refine R20.out.store (.tmp 12) (.tmp 45) rfl rfl rfl rfl ?_
            intro uf hRf hcf
            have HRf := Lib.hid hRf
            have HGl := Lib.hid (R20.out.var _ rfl).1
            have HCf := Lib.hid hcf
            refine hK.out _ _ (HS.out _ HRf.out.bl) (fun hHeld => ?_)
            clear hK K hRf hHeld hcf
            refine wpAnyH_done (by kernel_rfl) ?_ _
            go_wp2_with fail
            go_meet
            exact ⟨_, _, _, rfl, HGl.out, HCf, HRf⟩
      case rest =>
        obtain ⟨g, A7, c7, rfl, hg, HCell, HR⟩ := hcut
        have HFu := Lib.hid (HEnd.out _ _ HR.out)
        have BW5 := Lib.hid (BW3.out.trans (HR.out.bl.mono hw4))
        have HG : Hid (g < wc.heap.size) := World.block_lt_of_cell? wc _ HCell.out
        have hlen : (fa ++ fb).length = fa.length + fb.length := List.length_append
        have hn : fa.length + fb.length ≤ 128 := by have := HN.out; omega
        have HX : Hid (∃ ks, XfsC wc (Lo wc.heap.size) ((fa ++ fb).map toXf) ks (.slice A7 (fa.length + fb.length) c7)) := FusC.toX HFu.out (fun f hf => okF_of (by rcases List.mem_append.1 hf with h | h; exact HA.out.2 f h; exact HB.out.2 f h))
        have HM := Lib.hid (prog_more (fa.map toXf) (fb.map toXf) HPa.out.1 HPb.out.1)
        rw [← List.map_append, toXf_names, List.length_map, hlen] at HM
        have HLen := Lib.hid hlen
        have HW : Hid (∀ f ∈ fa ++ fb, Byn f.name) := fun f hf => bynB_iff.1 (byn_name (show IsName f.name from by rcases List.mem_append.1 hf with h | h; exact (HA.out.2 f h).1; exact (HB.out.2 f h).1))
        clear HR HEnd HS HRa HRb HLa HLb HOa HOb R0 HPa HPb HN HA HB hlen hw4 q1 q2
        generalize fa ++ fb = fs at *
        generalize fa.length + fb.length = n at *
        have HTw : Hid (twA (fs.map (·.name)) n = !decide (fs.map (·.name)).Nodup) := by show _ = _; rw [← twA_all, List.length_map, HLen.out]
        generalize hns : fs.map (·.name) = ns at *
        have HNs := Lib.hid hns
        clear hns
        have HGet : Hid (∀ k, k < n → ∃ (f : Fu) (b o c : Nat), fs[k]? = some f ∧ ns[k]? = some f.name ∧ Byn f.name ∧ A7 = some ⟨b, o, none⟩ ∧ ∀ wr, Below wc.heap.size wc wr → wr.cell? ⟨b, o + k * 5, none⟩ = some (.string (strN f.name))) := by
          intro k hk
          have he : fs[k]? = some (fs[k]'(by rw [HLen.out]; exact hk)) := List.getElem?_eq_getElem _
          generalize fs[k]'(by rw [HLen.out]; exact hk) = f at he
          obtain ⟨b, o, c0, q, e1, a1, a2, a3, a4, a5⟩ := HFu.out.get he
          injection e1 with e1 _ _
          exact ⟨f, b, o, c0, he, by rw [← HNs.out]; exact names_get fs k f he, HW.out f (List.mem_of_getElem? he), e1, fun wr hb => cell_below (a4 0 _ rfl) hb⟩
        go_upto_region 7 with fail
        go_wp2
        go_loopw [13, 14, 15] (fun t i _ wr => ∃ k : Nat, k ≤ n ∧ i = .int .i64 k ∧ t = .bool (twA ns k) ∧ Hid (Below wc.heap.size wc wr)) (fun _ i _ _ => n - (intOf i).toNat)
        case atStart => exact ⟨0, Nat.zero_le _, rfl, rfl, Below.refl _ _⟩
        case round =>
          obtain ⟨k, hk, rfl, rfl, HBk⟩ := hrel
          have x0 := cell_below HCell.out HBk.out
          by_cases hlt : k < n
          · generalize htk : twA ns k = tk at *
            have HTk := Lib.hid htk
            clear htk
            go_wp2
            clear x0
            go_loopw [13, 15] (fun t j wq => ∃ m : Nat, m ≤ k ∧ j = .int .i64 m ∧ t = .bool (tk || twB ns k m) ∧ Hid (Below wc.heap.size wc wq)) (fun _ j _ => k - (intOf j).toNat)
            case atStart => exact ⟨0, Nat.zero_le _, rfl, by simp [twB], HBk⟩
            case round =>
              obtain ⟨m, hm, rfl, rfl, HBm⟩ := hrel
              have x1 := cell_below HCell.out HBm.out
              by_cases hlm : m < k
              · obtain ⟨f, b, o, _, _, hf2, hf3, hf4, hf5⟩ := HGet.out k hlt
                obtain ⟨f', b', o', _, _, hg2, hg3, hg4, hg5⟩ := HGet.out m (by omega)
                subst hf4
                injection hg4 with hg4
                injection hg4 with hg4 hg6 _
                subst hg4 hg6
                have y1 := hf5 wr HBm.out
                have y2 := hg5 wr HBm.out
                have hq := strN_eq hf3 hg3
                have HStep : Hid ((tk || twB ns k (m + 1)) = ((tk || twB ns k m) || decide (f.name = f'.name))) := by
                  show _ = _
                  rw [twB_succ, hf2, hg2, Bool.or_assoc]
                  congr 2
                  simp
                generalize decide (f.name = f'.name) = dd at *
                generalize (tk || twB ns k m) = tt at *
                clear hf5 hg5 hf2 hg2 hf3 hg3
                cases tt with
                | true =>
                  go_wp2
                  go_quiet (fail)
                  go_wp2
                  go_roundw
                  case rel => exact ⟨m + 1, by omega, by go_num, by rw [HStep.out]; rfl, below_drewN HBm.out _⟩
                  case measure => simp [intOf]; omega
                | false =>
                  go_wp2
                  go_quiet (fail)
                  go_wp2
                  go_roundw
                  case rel => exact ⟨m + 1, by omega, by go_num, by rw [HStep.out]; rfl, below_drewN HBm.out _⟩
                  case measure => simp [intOf]; omega
              · obtain rfl : m = k := by omega
                have HStep : Hid (twA ns (m + 1) = (tk || twB ns m m)) := by show _ = _; rw [twA_succ, HTk.out]
                go_wp2
                go_roundw
                case rel => exact ⟨m + 1, by omega, by go_num, by rw [HStep.out], HBm⟩
                case measure => simp [intOf]; omega
          · obtain rfl : k = n := by omega
            rw [HTw.out]
            obtain ⟨ks, hX⟩ := HX.out
            have K := checkC _ ks A7 c7 wr wc.heap.size HBk.out.size (by rw [List.length_map, HLen.out]; exact hX.same (same_below HBk.out (Nat.le_refl _)))
            rw [List.length_map, HLen.out] at K
            have HK := Lib.hid K
            clear hX K HX HGet HTw HLen HW
            have h2 := HM.out
            clear HM
            generalize checkM (fs.map toXf) = cm at *
            obtain ⟨c1, c2'⟩ := cm
            simp only at h2 HK
            by_cases h64 : k > 64
            · rw [if_pos h64] at h2
              subst h2
              have q3 : decide ((64 : Int) < k) = true := by rw [decide_eq_true_eq]; omega
              go_wp2_with fail
              with_reducible refine HK.out.mono ?_
              clear HK
              rintro e w6 ⟨rfl, b6⟩
              have x6 := cell_below x0 b6
              have B6 := Lib.hid (BW5.out.trans ((HBk.out.trans (b6.mono HBk.out.size)).mono BW5.out.size))
              clear b6 x0
              go_wp2
              go_ret
              exact ⟨rfl, B6.out⟩
            · have q3 : decide ((64 : Int) < k) = false := by rw [decide_eq_false_iff_not]; omega
              rw [if_neg h64] at h2
              by_cases hnd : ns.Nodup
              · rw [if_pos hnd] at h2
                subst h2
                rw [show decide ns.Nodup = true from decide_eq_true hnd]
                clear hnd
                go_wp2_with fail
                with_reducible refine HK.out.mono ?_
                clear HK
                rintro e w6 ⟨rfl, b6⟩
                have x6 := cell_below x0 b6
                have B6 := Lib.hid (BW5.out.trans ((HBk.out.trans (b6.mono HBk.out.size)).mono BW5.out.size))
                clear b6 x0
                go_wp2
                go_ret
                exact ⟨rfl, B6.out⟩
              · rw [if_neg hnd] at h2
                subst h2
                rw [show decide ns.Nodup = false from decide_eq_false hnd]
                clear hnd
                go_wp2_with fail
                with_reducible refine HK.out.mono ?_
                clear HK
                rintro e w6 ⟨rfl, b6⟩
                have x6 := cell_below x0 b6
                have B6 := Lib.hid (BW5.out.trans ((HBk.out.trans (b6.mono HBk.out.size)).mono BW5.out.size))
                clear b6 x0
                go_wp2
                go_ret
                exact ⟨rfl, B6.out⟩
    · have q2 : (eb != 0) = true := by rw [bne_iff_ne]; exact he'
      clear he he'
      go_wp2
      go_ret
      exact ⟨rfl, BW3.out⟩
  · have q1 : (ea != 0) = true := by rw [bne_iff_ne]; exact he
    clear he
    go_wp2
    go_ret
    exact ⟨rfl, BW3.out⟩
end Go.Proofs.YtfcpabhkconjmaaGreatDoor
