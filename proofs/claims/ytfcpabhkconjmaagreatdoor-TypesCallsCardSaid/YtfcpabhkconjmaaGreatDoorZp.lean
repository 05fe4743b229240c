/- TypesCalls: its walk. Conditions: the bytes lie in memory; the tables lie as the program lays them. -/
import Derived.Test.YtfcpabhkconjmaaGreatDoorZo
namespace Go.Proofs.YtfcpabhkconjmaaGreatDoor
open Go.RowKit
set_option maxRecDepth 100000
set_option linter.unusedSimpArgs false
set_option linter.unusedVariables false

/-- the types that the bytes ask for -/
def ty3 (b : Nat) : Int := ((1 + b % 3 : Nat) : Int)
theorem good3 (l : List Nat) : Good3 (l.map ty3) := by
  intro o ho
  obtain ⟨b, _, rfl⟩ := List.mem_map.1 ho
  unfold ty3
  omega

set_option maxHeartbeats 800000 in
theorem calls_walk (A : Option Addr) (l : List Nat) (c : Nat) (u : Nat) (w : World) (hu : u < 256) (hc : l.length ≤ c) (hcm : c ≤ maxLen) (hl : Lies w w.heap.size A c (bts l)) (hy : Byn l) (ht : Tab w) :
    Calls Tryz.prog 8 #[.slice A l.length c, .int .u8 (u : Int)] w fun e w' => e = .returned (.bool true) ∧ Below w.heap.size w w' := by
  have K := Lib.hid (head5_true w ht)
  obtain ⟨i0, hi, hz0, hz1, hz2⟩ := info_parts info71
  obtain ⟨j0, hj, hy0, hy1, hy2⟩ := info_parts info39
  have HL := Lib.hid hl
  have HY := Lib.hid hy
  unfold maxLen at hcm
  clear ht hl hy
  go_enter Tryz.func8, Tryz.ntmps8
  go_wp2_with fail
  (with_reducible refine K.out.mono ?_)
  clear K
  rintro e w1 ⟨rfl, hb1⟩
  have BW1 := Lib.hid hb1
  clear hb1
  by_cases h0 : l.length = 0
  · have q1 : ((l.length : Int) == 0) = true := by rw [h0]; rfl
    clear h0
    go_wp2
    go_ret
    exact ⟨rfl, BW1.out⟩
  by_cases h15 : l.length > 15
  · have q1 : ((l.length : Int) == 0) = false := by rw [beq_eq_false_iff_ne]; omega
    have q2 : decide ((15 : Int) < l.length) = true := by rw [decide_eq_true_eq]; omega
    clear h0
    go_wp2
    go_ret
    exact ⟨rfl, BW1.out⟩
  have q1 : ((l.length : Int) == 0) = false := by rw [beq_eq_false_iff_ne]; omega
  have q2 : decide ((15 : Int) < l.length) = false := by rw [decide_eq_false_iff_not]; omega
  go_upto_region 5 with fail
  have C0 := Lib.hid (CL.start w1)
  have hw1 : Hid (w.heap.size ≤ w1.heap.size) := BW1.out.size
  generalize w1.alloc (.cells #[.string ⟨#[102]⟩, .slice none 0 0, .int .i64 0, .slice none 0 0, .int .i64 0] 36) = w2 at *
  go_wp2
  go_loopw [7, 8, 9] (fun V2 i _ wr => ∃ (k : Nat) (V1 : Value), k ≤ l.length ∧ i = .int .i64 k ∧ Hid (CL w1 wr w1.heap.size V1 V2 ((l.take k).map ty3) ((l.take k).map ty3))) (fun _ i _ _ => l.length - (intOf i).toNat)
  case atStart => exact ⟨0, .slice none 0 0, Nat.zero_le _, rfl, C0⟩
  case round =>
    obtain ⟨k, V1, hk, rfl, HC⟩ := hrel
    obtain ⟨A1, d1, rfl⟩ := own_shape HC.out.r1
    obtain ⟨A2, d2, rfl⟩ := own_shape HC.out.r2
    by_cases hlt : k < l.length
    · obtain ⟨ad, a, hA, hBa, hg, hcell⟩ := (HL.out.below (BW1.out.trans (HC.out.old.mono hw1.out))).nat (k := k) hlt
      subst hA
      have ha := byn_get HY.out hg
      have HG := Lib.hid hg
      clear hg
      have hpl : ((l.take k).map ty3).length = k := by simp; omega
      rw [hpl]
      rw [hpl] at HC
      have HSn : Hid ((l.take (k + 1)).map ty3 = (l.take k).map ty3 ++ [ty3 a]) := by
        show _ = _
        rw [List.take_add_one, HG.out]
        simp
      have HPl := Lib.hid hpl
      clear hpl
      generalize (l.take k).map ty3 = ps at *
      have hty : (1 + (a : Int) % 3) = ty3 a := by unfold ty3; omega
      go_upto_region 10 with fail
      clear hty hcell
      generalize ty3 a = t at *
      have z1 := (HC.out.var.cell 1 _ rfl).1
      have hcv : (convert 22 9 (.slice (some ⟨wr.heap.size, 0, none⟩) 1 1)).run Tryz.prog (wr.alloc (.cells #[.int .u8 (97 + (k : Int))] 5)) = .ok (.string (strN [97 + k])) (wr.alloc (.cells #[.int .u8 (97 + (k : Int))] 5)) := by
        have hL : Lies (wr.alloc (.cells #[.int .u8 (97 + (k : Int))] 5)) (wr.heap.size + 1) (some ⟨wr.heap.size, 0, none⟩) 1 (cellsOf [97 + (k : Int)]) := by
          have := lies_new wr [97 + k] 1 5 (0, 0)
          simpa [bts, ints, cellsOf] using this
        exact run_string_lies _ 22 9 5 Tryz.underlying22 Tryz.underlying5 Tryz.underlying9 _ _ 1 1 [97 + (k : Int)] rfl hL
      have HCq : Hid (CL w1 ((wr.alloc (.cells #[.int .u8 (97 + (k : Int))] 5)).alloc (.cells #[.string (strN [97 + k]), .int .i64 t] 52)) w1.heap.size (.slice A1 k d1) (.slice A2 k d2) ps ps) := (HC.out.low (below_alloc wr _)).low (below_alloc _ _)
      have h1 := HCq.out.r1
      rw [HPl.out] at h1
      have HO1 := Lib.hid h1
      have HN1 : Hid (∀ (j : Nat) (v : Value), ([.string (strN [97 + k]), .int .i64 t] : List Value)[j]? = some v → ((wr.alloc (.cells #[.int .u8 (97 + (k : Int))] 5)).alloc (.cells #[.string (strN [97 + k]), .int .i64 t] 52)).cell? ((Addr.mk (wr.heap.size + 1) 0 none).add j) = some v) := fun j v hv => by
        rw [Addr.add_mid]
        have := range_of (cs := [.string (strN [97 + k]), .int .i64 t]) (heap_alloc_new (wr.alloc (.cells #[.int .u8 (97 + (k : Int))] 5)) (.cells #[.string (strN [97 + k]), .int .i64 t] 52)) j v hv
        simpa using this
      have hsz : w1.heap.size + 1 ≤ ((wr.alloc (.cells #[.int .u8 (97 + (k : Int))] 5)).alloc (.cells #[.string (strN [97 + k]), .int .i64 t] 52)).heap.size := by have := HCq.out.lt; omega
      have HSz := Lib.hid hsz
      have HW1 : Hid (w1.heap.size < (wr.alloc (.cells #[.int .u8 (97 + (k : Int))] 5)).heap.size) := by have := HC.out.lt; show _ < _; simp; omega
      clear h1 hsz
      go_wp2_with (at_builtin; refine wpList_append_one _ rfl (.tmp 39) (.tmp 47) 32 rfl (w1.heap.size + 1) 52 i0 _ 2 24 Tryz.underlying32 hi hz0 hz1 hz2 rfl (by omega) _ k _ rfl HO1.out ⟨wr.heap.size + 1, 0, none⟩ 1 [.string (strN [97 + k]), .int .i64 t] rfl rfl HN1.out one2 (by omega) (by unfold maxLen; omega) HSz.out ?_; intro V3 u3 ho3 hg3 hv3; obtain ⟨A3, d3, rfl⟩ := own_shape ho3; refine Hid.out ?_)
      refine Lib.hid ?_
      have HC3 := Lib.hid (HCq.out.addP (t := t) (by rw [HPl.out]) ho3 hg3 hv3 (by rw [HPl.out]))
      have hva := HCq.out.var.of (hg3.block w1.heap.size HCq.out.lt (fun e => by have := (HO1.out.lt _ e.symm).1; omega))
      obtain ⟨hce, hcf⟩ := hva.cell 1 _ rfl
      clear hva ho3 hg3 hv3 hcv z1 HO1 HN1 HSz HCq HW1
      go_upto_region 11 with fail
      clear hce hcf
      generalize u3.setCell ⟨w1.heap.size, 1, none⟩ (.slice A3 (k + 1) d3) = w4 at *
      have HC4 : Hid (CL w1 (w4.alloc (.cells #[.int .i64 t, .int .i64 0, .string ⟨#[]⟩, .slice none 0 0, .int .i64 0] 46)) w1.heap.size (.slice A3 (k + 1) d3) (.slice A2 k d2) (ps ++ [t]) ps) := HC3.out.low (below_alloc w4 _)
      have h2 := HC4.out.r2
      rw [HPl.out] at h2
      have HO2 := Lib.hid h2
      have HN2 : Hid (∀ (j : Nat) (v : Value), ([.int .i64 t, .int .i64 0, .string ⟨#[]⟩, .slice none 0 0, .int .i64 0] : List Value)[j]? = some v → (w4.alloc (.cells #[.int .i64 t, .int .i64 0, .string ⟨#[]⟩, .slice none 0 0, .int .i64 0] 46)).cell? ((Addr.mk w4.heap.size 0 none).add j) = some v) := fun j v hv => by
        rw [Addr.add_mid]
        exact range_of (cs := [.int .i64 t, .int .i64 0, .string ⟨#[]⟩, .slice none 0 0, .int .i64 0]) (heap_alloc_new w4 _) j v hv
      have HSz2 : Hid (w1.heap.size + 1 ≤ (w4.alloc (.cells #[.int .i64 t, .int .i64 0, .string ⟨#[]⟩, .slice none 0 0, .int .i64 0] 46)).heap.size) := by have := HC4.out.lt; show _ ≤ _; omega
      clear h2
      go_wp2_with (at_builtin; refine wpList_append_one _ rfl (.tmp 50) (.tmp 53) 44 rfl (w1.heap.size + 1) 46 j0 _ 5 64 Tryz.underlying44 hj hy0 hy1 hy2 rfl (by omega) _ k _ rfl HO2.out ⟨w4.heap.size, 0, none⟩ 1 [.int .i64 t, .int .i64 0, .string ⟨#[]⟩, .slice none 0 0, .int .i64 0] rfl rfl HN2.out one5 (by omega) (by unfold maxLen; omega) HSz2.out ?_; intro V5 u5 ho5 hg5 hv5; obtain ⟨A5, d5, rfl⟩ := own_shape ho5; refine Hid.out ?_)
      refine Lib.hid ?_
      have HC5 := Lib.hid (HC4.out.addK (t := t) (by rw [HPl.out]) ho5 hg5 hv5 rfl)
      clear ho5 hg5 hv5 HO2 HN2 HSz2 HC4 HC3
      go_wp2
      go_roundw
      case rel => exact ⟨k + 1, .slice A3 (k + 1) d3, by omega, by go_num, by rw [HSn.out]; exact HC5.out⟩
      case measure => simp [intOf]; omega
    · have hkl : k = l.length := by omega
      subst hkl
      have hpl : ((l.take l.length).map ty3) = l.map ty3 := by rw [List.take_length]
      rw [hpl] at HC ⊢
      clear hpl hk hlt
      have hpn : (l.map ty3).length = l.length := by simp
      rw [hpn] at HC ⊢
      have HPl := Lib.hid hpn
      have HGd := Lib.hid (good3 l)
      clear hpn HL HY
      generalize l.map ty3 = ps at *
      generalize l.length = n at *
      have hmf := hmf5
      go_upto_region 14 with fail
      have hkk : ((u : Int) % (n : Int)) = ((u % n : Nat) : Int) := by simp
      have hklt : u % n < n := Nat.mod_lt _ (by omega)
      rw [hkk]
      clear hkk
      generalize u % n = k at *
      have h2 := HC.out.r2
      rw [HPl.out] at h2
      obtain ⟨b2, d2', e2, g1, g2, g3, gv, g5⟩ := own_varG h2 (by omega)
      injection e2 with e2 _ e3
      subst e2 e3
      have HRow : Hid (RowF wr (Lo wr.heap.size) n (kC ps) (.slice (some ⟨b2, 0, none⟩) n d2)) := (RowF.own h2).more fun q h => h.2
      obtain ⟨o, ho⟩ : ∃ o, ps[k]? = some o := ⟨_, List.getElem?_eq_getElem (by rw [HPl.out]; exact hklt)⟩
      have hgo := HGd.out o (List.mem_of_getElem? ho)
      obtain ⟨m, rfl⟩ : ∃ m : Nat, o = (m : Int) := ⟨o.toNat, by omega⟩
      have hx := (gv.cell (k * 5) _ (kC_get ps k _ ho)).1
      have HX := Lib.hid hx
      have HO0 := Lib.hid (own_none wr)
      have HRa : Hid (RowF (wr.alloc (.cells #[] 46)) (Lo (wr.alloc (.cells #[] 46)).heap.size) n (kC ps) (.slice (some ⟨b2, 0, none⟩) n d2)) := rowf_below HRow.out (below_alloc wr _)
      have HBa := Lib.hid (below_alloc wr (.cells #[] 46))
      have HPo := Lib.hid ho
      have hm3 : m ≤ 3 := by omega
      have HM : Hid (ty3 m ≠ (m : Int)) := by show _ ≠ _; unfold ty3; omega
      have hn15 : n ≤ 15 := by omega
      have HOne := Lib.hid (kC_one ps)
      have HKl : Hid ((kC ps).length = n * 5) := by show _ = _; rw [kC_len, HPl.out]
      have HCl : Hid (d2 ≤ maxLen ∧ n ≤ d2) := ⟨g3, g2⟩
      clear h2 g1 g2 g3 gv g5 hx ho hgo
      go_wp2_with (at_builtin; refine put46L HO0.out HBa.out.size rfl (.tmp 61) (.tmp 62) rfl rfl (some ⟨b2, 0, none⟩) n d2 rfl (kC ps) HRa.out HKl.out HOne.out (by omega) n (Nat.zero_add _) (kC ps) rfl ?_; intro A6 d6 u6 ho6 hg6; refine Hid.out ?_)
      refine Lib.hid ?_
      have B6 : Below wr.heap.size wr u6 := HBa.out.grown hg6 HBa.out.size (fun b hb => (HO0.out.lt b hb).1)
      obtain ⟨b6, d6', e6, f1, f2, f3, fv, f5⟩ := own_varG ho6 (by omega)
      injection e6 with e6 _ e7
      subst e6 e7
      have hx := cell_below HX.out B6
      have HB6 := Lib.hid B6
      have HFv := Lib.hid fv
      have HF1 : Hid (wr.heap.size ≤ b6 ∧ n ≤ d6 ∧ d6 ≤ maxLen ∧ b6 < u6.heap.size) := ⟨f1, f2, f3, f5⟩
      have hth := fv.mid (o := k * 5) (n := 5) (by rw [HKl.out]; omega)
      have HTh := Lib.hid hth
      have hty : (1 + (m : Int) % 3) = ty3 m := by unfold ty3; omega
      clear B6 fv f1 f2 f3 f5 hth ho6 hg6 HO0 HRa HBa HX
      go_upto_region 15 with fail
      go_wp2_with (first | (refine wpList_store_mid rfl 46 (.tmp 74) (.tmp 73) rfl b6 (k * 5) #[.int .i64 (ty3 m), .int .i64 0, .string ⟨#[]⟩, .slice none 0 0, .int .i64 0] rfl rfl HTh.out info46f (by simpa using one5) ?_; refine Hid.out ?_) | fail)
      refine Lib.hid ?_
      have B7 : Below wr.heap.size wr (u6.setCells b6 (k * 5) [.int .i64 (ty3 m), .int .i64 0, .string ⟨#[]⟩, .slice none 0 0, .int .i64 0]) := HB6.out.trans ((below_cells b6 (k * 5) _ u6).1.mono HF1.out.1)
      have VO : VarAt (u6.setCells b6 (k * 5) [.int .i64 (ty3 m), .int .i64 0, .string ⟨#[]⟩, .slice none 0 0, .int .i64 0]) b6 (kC (ps.set k (ty3 m))) := by
        have := HFv.out.sets [.int .i64 (ty3 m), .int .i64 0, .string ⟨#[]⟩, .slice none 0 0, .int .i64 0] (k * 5)
        rw [← kC_sets ps k (ty3 m) (by rw [HPl.out]; exact hklt)]
        exact this
      have HB7 := Lib.hid B7
      have HOt : Hid (RowF (u6.setCells b6 (k * 5) [.int .i64 (ty3 m), .int .i64 0, .string ⟨#[]⟩, .slice none 0 0, .int .i64 0]) (Lo (u6.setCells b6 (k * 5) [.int .i64 (ty3 m), .int .i64 0, .string ⟨#[]⟩, .slice none 0 0, .int .i64 0]).heap.size) n (kC (ps.set k (ty3 m))) (.slice (some ⟨b6, 0, none⟩) n d6)) := range_row VO.1 (by show b6 < _; rw [(below_cells b6 (k * 5) _ u6).2.2]; exact HF1.out.2.2.2) HF1.out.2.1 HF1.out.2.2.1
      have HR7 := Lib.hid (rowf_below HRow.out B7)
      have HC7 := Lib.hid (HC.out.low B7)
      have HNe : Hid (ps.set k (ty3 m) ≠ ps) := by
        intro e
        have h1 : (ps.set k (ty3 m))[k]? = some (ty3 m) := by rw [List.getElem?_set, if_pos rfl, if_pos (by rw [HPl.out]; exact hklt)]
        rw [e, HPo.out] at h1
        injection h1 with h1
        exact HM.out h1.symm
      have HGs : Hid (Good3 (ps.set k (ty3 m))) := by
        intro x hx
        rcases List.mem_or_eq_of_mem_set hx with h | h
        · exact HGd.out x h
        · subst h; unfold ty3; omega
      have hs : (ps.set k (ty3 m)).length = n := by rw [List.length_set, HPl.out]
      have HSl := Lib.hid hs
      clear B7 VO hs hx HTh HFv HB6 HPo HM hty HC HRow HF1
      generalize u6.setCells b6 (k * 5) [.int .i64 (ty3 m), .int .i64 0, .string ⟨#[]⟩, .slice none 0 0, .int .i64 0] = w7 at *
      generalize ps.set k (ty3 m) = qs at *
      go_upto_region 16 with fail
      have HO7 := Lib.hid (own_none w7)
      have HRb : Hid (RowF (w7.alloc (.cells #[] 46)) (Lo (w7.alloc (.cells #[] 46)).heap.size) n (kC ps) (.slice (some ⟨b2, 0, none⟩) n d2)) := rowf_below HR7.out (below_alloc w7 _)
      have HBb := Lib.hid (below_alloc w7 (.cells #[] 46))
      go_wp2_with (at_builtin; refine put46L HO7.out HBb.out.size rfl (.tmp 75) (.tmp 76) rfl rfl (some ⟨b2, 0, none⟩) n d2 rfl (kC ps) HRb.out HKl.out HOne.out (by omega) n (Nat.zero_add _) (kC ps) rfl ?_; intro A8 d8 u8 ho8 hg8; refine Hid.out ?_)
      refine Lib.hid ?_
      have B8 : Below w7.heap.size w7 u8 := HBb.out.grown hg8 HBb.out.size (fun b hb => (HO7.out.lt b hb).1)
      have HB8 : Hid (Below w7.heap.size w7 (u8.alloc (.cells #[.int .i64 1, .int .i64 0, .string ⟨#[]⟩, .slice none 0 0, .int .i64 0] 46))) := B8.trans ((below_alloc u8 _).mono B8.size)
      have HO8 : Hid ((u8.alloc (.cells #[.int .i64 1, .int .i64 0, .string ⟨#[]⟩, .slice none 0 0, .int .i64 0] 46)).ownsRow w7.heap.size 46 5 (.slice A8 n d8) n (kC ps)) := own_below ho8 (below_alloc u8 _) (Nat.le_refl _)
      have HRl : Hid (RowF (u8.alloc (.cells #[.int .i64 1, .int .i64 0, .string ⟨#[]⟩, .slice none 0 0, .int .i64 0] 46)) (fun q => q = u8.heap.size) 1 (kC [1]) (.slice (some ⟨u8.heap.size, 0, none⟩) 1 1)) := range_row (range_newz u8 _ 46) rfl (Nat.le_refl _) (by unfold maxLen; omega)
      clear B8 ho8 hg8 HO7 HRb HBb
      go_wp2_with (at_builtin; refine put46L HO8.out HB8.out.size rfl (.tmp 77) (.tmp 79) rfl rfl (some ⟨u8.heap.size, 0, none⟩) 1 1 rfl (kC [1]) HRl.out rfl (kC_one [1]) (by omega) (n + 1) rfl (kC (ps ++ [1])) (kC_snoc ps 1).symm ?_; intro A9 d9 u9 ho9 hg9; refine Hid.out ?_)
      refine Lib.hid ?_
      have B9 : Below w7.heap.size w7 u9 := HB8.out.grown hg9 HB8.out.size (fun b hb => (HO8.out.lt b hb).1)
      have HB9 := Lib.hid B9
      have HR9 := Lib.hid (rowf_below HR7.out B9)
      have HOt9 := Lib.hid (rowf_below HOt.out B9)
      have HMo9 : Hid (RowF u9 (Lo u9.heap.size) (n + 1) (kC (ps ++ [1])) (.slice A9 (n + 1) d9)) := (RowF.own ho9).more fun q h => h.2
      have HC9 := Lib.hid (HC7.out.low B9)
      have HGm : Hid (Good3 (ps ++ [1])) := by
        intro x hx
        rcases List.mem_append.1 hx with h | h
        · exact HGd.out x h
        · left; simpa using h
      have HLm : Hid ((ps ++ [1]).length = n + 1) := by show _ = _; rw [List.length_append, HPl.out]; rfl
      have HNm : Hid (ps ++ [1] ≠ ps) := fun e => by have := congrArg List.length e; simp at this
      have hw9 : Hid (Below w.heap.size w u9) := BW1.out.trans (HC9.out.old.mono hw1.out)
      have hpl15 : Hid (ps.length ≤ 15) := by show _ ≤ _; rw [HPl.out]; exact hn15
      have K1 : Hid (∀ wy, Below u9.heap.size u9 wy → Calls Tryz.prog 18 #[.slice (some ⟨b2, 0, none⟩) n d2, .pointer (some ⟨w1.heap.size, 0, none⟩)] wy fun e w' => e = .returned (.int .i64 0) ∧ Below wy.heap.size wy w') := fun wy hb => by
        have := call_any HC9.out HGd.out HGd.out hpl15.out HPl.out HR9.out wy hb
        rw [if_pos rfl] at this
        exact this
      have K2 : Hid (∀ wy, Below u9.heap.size u9 wy → Calls Tryz.prog 18 #[.slice (some ⟨b6, 0, none⟩) n d6, .pointer (some ⟨w1.heap.size, 0, none⟩)] wy fun e w' => e = .returned (.int .i64 51) ∧ Below wy.heap.size wy w') := fun wy hb => by
        have := call_any HC9.out HGs.out HGd.out hpl15.out HSl.out HOt9.out wy hb
        rw [if_neg HNe.out] at this
        exact this
      have K3 : Hid (∀ wy, Below u9.heap.size u9 wy → Calls Tryz.prog 18 #[.slice A9 (n + 1) d9, .pointer (some ⟨w1.heap.size, 0, none⟩)] wy fun e w' => e = .returned (.int .i64 51) ∧ Below wy.heap.size wy w') := fun wy hb => by
        have := call_any HC9.out HGm.out HGd.out hpl15.out HLm.out HMo9.out wy hb
        rw [if_neg HNm.out] at this
        exact this
      clear B9 ho9 hg9 HO8 HRl HB8 HMo9 HOt9 HGm HLm HNm HNe HGs HSl HOt HC7
      have hcf : ∀ (args : Array Value) (w : World), (callFunc 18 args).run Tryz.prog w = .ok (.enter 18 args) w := by intro args w; simp
      go_upto_region 17 with fail
      go_wp2_with fail
      with_reducible refine (K1.out _ (Below.refl _ _)).mono ?_
      rintro e v1 ⟨rfl, c1⟩
      have HV1 := Lib.hid c1
      clear c1 K1
      go_wp2_with fail
      with_reducible refine (K2.out _ HV1.out).mono ?_
      rintro e v2 ⟨rfl, c2⟩
      have HV2 := Lib.hid (bthen5 HV1.out c2 HV1.out.size)
      clear c2 K2 HV1
      go_wp2_with fail
      with_reducible refine (K3.out _ HV2.out).mono ?_
      rintro e v3 ⟨rfl, c3⟩
      have HV3 := Lib.hid (bthen5 HV2.out c3 HV2.out.size)
      clear c3 K3 HV2
      have hd1 : (1 : Int) ≤ n := by omega
      have HGd4 : Hid (Good3 (ps.drop 1)) := fun x hx => HGd.out x (List.mem_of_mem_drop hx)
      have HLd : Hid ((ps.drop 1).length = n - 1) := by show _ = _; rw [List.length_drop, HPl.out]
      have HNd : Hid (ps.drop 1 ≠ ps) := fun e => by have := congrArg List.length e; rw [HLd.out, HPl.out] at this; omega
      by_cases hd : d2 = 1
      · have hR4 : RowF u9 (Lo u9.heap.size) (n - 1) (kC (ps.drop 1)) (.slice (some ⟨b2, 0, none⟩) (n - 1) 0) := by
          have hnd : n ≤ d2 := HCl.out.2
          have hnil : ps.drop 1 = [] := List.eq_nil_of_length_eq_zero (by rw [HLd.out]; omega)
          rw [hnil]
          exact ⟨_, _, rfl, by omega, by unfold maxLen; omega, (fun e => by cases e), fun j v hv => by cases hv⟩
        have K4 := call_any HC9.out HGd4.out HGd.out hpl15.out HLd.out hR4 v3 HV3.out
        rw [if_neg HNd.out] at K4
        have HK4 := Lib.hid K4
        clear hR4 K4
        go_wp2_with fail
        with_reducible refine HK4.out.mono ?_
        rintro e v4 ⟨rfl, c4⟩
        have HV4 := Lib.hid (hw9.out.trans ((bthen5 HV3.out c4 HV3.out.size).mono hw9.out.size))
        clear c4 HK4
        go_wp2
        go_ret
        exact ⟨rfl, HV4.out⟩
      · have hR4 : RowF u9 (Lo u9.heap.size) (n - 1) (kC (ps.drop 1)) (.slice (some ⟨b2, 5, none⟩) (n - 1) (d2 - 1)) := by
          obtain ⟨A', c', e', r1, r2, r3, r4⟩ := HR9.out
          injection e' with e1 _ e2
          subst e1 e2
          refine ⟨_, _, rfl, by omega, by omega, (fun e => by cases e), fun j v hv => ?_⟩
          rw [kC_drop, List.getElem?_drop] at hv
          obtain ⟨ad, e, g1, g2⟩ := r4 _ v hv
          injection e with e
          subst e
          refine ⟨_, rfl, g1, ?_⟩
          rw [Addr.add_mid] at g2 ⊢
          rw [Nat.zero_add] at g2
          exact g2
        have K4 := call_any HC9.out HGd4.out HGd.out hpl15.out HLd.out hR4 v3 HV3.out
        rw [if_neg HNd.out] at K4
        have HK4 := Lib.hid K4
        clear hR4 K4
        go_wp2_with fail
        with_reducible refine HK4.out.mono ?_
        rintro e v4 ⟨rfl, c4⟩
        have HV4 := Lib.hid (hw9.out.trans ((bthen5 HV3.out c4 HV3.out.size).mono hw9.out.size))
        clear c4 HK4
        go_wp2
        go_ret
        exact ⟨rfl, HV4.out⟩
end Go.Proofs.YtfcpabhkconjmaaGreatDoor
