/- The walk of SealSpoilt: it returns true, and nothing that was there has changed. Conditions: none beyond what its arguments are, and their reach; the table of sixteen lies as the program lays it. -/
import Derived.Test.YtjilifodmmhnkaaDoorSpo
import Derived.Deep.DeepCutAuto
import Derived.RegionTactic
import Derived.BigRegion
namespace Go.Proofs.YtjilifodmmhnkaaDoor
open Go.RowKit

set_option maxRecDepth 100000 in
set_option maxHeartbeats 4000000 in
theorem spoilt_walk (A : Option Addr) (l : List Int) (c at_ by_ sm : Nat) (w : World) (hat : at_ < 65536) (hby : by_ < 4294967296) (hsm : sm < 4294967296) (hc : l.length ≤ c) (hcm : c ≤ maxLen) (hr : c ≤ 140737488351232) (hl : Lies w w.heap.size A c (cellsOf l)) (hy : Byt l) (ht : Tab w) :
    Calls Tryd.prog 5 #[.slice A l.length c, .int .u16 at_, .int .u32 by_, .int .u32 sm] w fun e w' => e = .returned (.bool true) ∧ Below w.heap.size w w' := by
  have HL := Lib.hid hl
  have HY := Lib.hid hy
  have HT := Lib.hid ht
  have hpos := ht.1
  clear hl hy ht
  go_enter Tryd.func5, Tryd.ntmps5
  go_wp2_with fail
  refine (head_true _ HT.out).mono ?_
  rintro e w1 ⟨rfl, hb1⟩
  have s1 := hb1.size
  go_wp2_with fail
  refine (sealO A l l.length c _ rfl hc hcm (by omega) ((HL.out.below hb1).more s1) HY.out (HT.out.below hb1 hpos)).mono ?_
  rintro e w2 ⟨v2, rfl, ho2, hb2⟩
  rw [seal_length] at ho2
  obtain ⟨A2, c2, rfl, h21, h22, _⟩ := own_lies ho2
  obtain ⟨g, rfl, hg⟩ := own_addr ho2 (by omega)
  have bw2 := hb1.trans (hb2.mono s1)
  have s2 := bw2.size
  have H2 := Lib.hid ho2
  clear ho2 hb2
  have hcm' := hcm
  unfold maxLen at hcm' h22
  by_cases hcond : 4 ≤ l.length ∧ by_ ≠ 0
  · have d1 : decide ((4 : Int) ≤ (l.length : Int)) = true := by simp; omega
    have d2 : ((by_ : Int) != 0) = true := by simp; omega
    have hj : ((at_ : Int) % ((l.length : Int) - 3)) = ((at_ % (l.length - 3) : Nat) : Int) := by
      have : ((l.length : Int) - 3) = ((l.length - 3 : Nat) : Int) := by omega
      rw [this]
      exact (Int.natCast_emod _ _).symm
    have hjl : at_ % (l.length - 3) < l.length - 3 := Nat.mod_lt _ (by omega)
    generalize at_ % (l.length - 3) = j at *
    go_wp2
    clear hj d1 d2
    have HS := Lib.hid (spoilt_behind HY.out (j := j) (x := by_) (by omega) hcond.2 hby)
    have YS := Lib.hid (seal_byt HY.out)
    have hSl := seal_length l
    generalize four (crcI l) ++ l = S at *
    have HSl := Lib.hid hSl
    clear hSl
    have hst : SpRel w2 w1.heap.size (.slice (some ⟨g, 0, none⟩) (l.length + 4) c2) (l.length + 4) S (4 + j) by_ 0 w2 := ⟨H2.out, World.grownBy.refl _ _⟩
    go_loopw [12] (fun i wr => ∃ k : Nat, k ≤ 4 ∧ i = .int .i64 k ∧ SpRel w2 w1.heap.size (.slice (some ⟨g, 0, none⟩) (l.length + 4) c2) (l.length + 4) S (4 + j) by_ k wr) (fun i _ => 4 - (intOf i).toNat)
    case atStart => exact ⟨0, Nat.zero_le _, rfl, hst⟩
    case round =>
      clear hst
      obtain ⟨k, hk, rfl, hR⟩ := hrel
      by_cases hkl : k < 4
      · have hgS : S[4 + j + k]? = some (S[4 + j + k]'(by rw [HSl.out]; omega)) := List.getElem?_eq_getElem _
        have hbb := YS.out _ (List.mem_of_getElem? hgS)
        obtain ⟨b, hbe⟩ := Int.eq_ofNat_of_zero_le hbb.1
        rw [hbe] at hgS hbb
        have HR0 := Lib.hid (hR.step hgS)
        obtain ⟨hc0, hf0⟩ := hR.cell hgS
        have hb256 : b < 256 := by omega
        clear hgS hbb hbe hR
        rcases (show k = 0 ∨ k = 1 ∨ k = 2 ∨ k = 3 by omega) with rfl | rfl | rfl | rfl
        · have hX := xk0 b by_ hb256
          have hcell : wr.cell? ⟨g, 4 + j, none⟩ = some (.int .u8 b) := hc0
          have hfz : wr.frozen? ⟨g, 4 + j, none⟩ = false := hf0
          have HR : Hid (SpRel w2 w1.heap.size (.slice (some ⟨g, 0, none⟩) (l.length + 4) c2) (l.length + 4) S (4 + j) by_ 1 (wr.setCell ⟨g, 4 + j, none⟩ (.int .u8 ((b ^^^ by_ / 2 ^ (8 * 0) % 256 : Nat) : Int)))) := HR0.out
          generalize ((b ^^^ by_ / 2 ^ (8 * 0) % 256 : Nat) : Int) = V at *
          clear hc0 hf0 HR0
          have ix1 : (4 : Int) + (j : Int) < (l.length : Int) + 4 := by omega
          go_wp2
          go_region
          all_goals
            clear hX hcell hfz
            go_wp2
            go_roundw
            case rel => exact ⟨1, by omega, rfl, HR.out.drew⟩
            case measure => simp [intOf]
        · have hX := xk1 b by_ hb256
          have hcell : wr.cell? ⟨g, 4 + j + 1, none⟩ = some (.int .u8 b) := hc0
          have hfz : wr.frozen? ⟨g, 4 + j + 1, none⟩ = false := hf0
          have HR : Hid (SpRel w2 w1.heap.size (.slice (some ⟨g, 0, none⟩) (l.length + 4) c2) (l.length + 4) S (4 + j) by_ 2 (wr.setCell ⟨g, 4 + j + 1, none⟩ (.int .u8 ((b ^^^ by_ / 2 ^ (8 * 1) % 256 : Nat) : Int)))) := HR0.out
          generalize ((b ^^^ by_ / 2 ^ (8 * 1) % 256 : Nat) : Int) = V at *
          clear hc0 hf0 HR0
          have ix1 : (4 : Int) + (j : Int) + 1 < (l.length : Int) + 4 := by omega
          go_wp2
          go_region
          all_goals
            clear hX hcell hfz
            go_wp2
            go_roundw
            case rel => exact ⟨2, by omega, rfl, HR.out.drew⟩
            case measure => simp [intOf]
        · have hX := xk2 b by_ hb256
          have hcell : wr.cell? ⟨g, 4 + j + 2, none⟩ = some (.int .u8 b) := hc0
          have hfz : wr.frozen? ⟨g, 4 + j + 2, none⟩ = false := hf0
          have HR : Hid (SpRel w2 w1.heap.size (.slice (some ⟨g, 0, none⟩) (l.length + 4) c2) (l.length + 4) S (4 + j) by_ 3 (wr.setCell ⟨g, 4 + j + 2, none⟩ (.int .u8 ((b ^^^ by_ / 2 ^ (8 * 2) % 256 : Nat) : Int)))) := HR0.out
          generalize ((b ^^^ by_ / 2 ^ (8 * 2) % 256 : Nat) : Int) = V at *
          clear hc0 hf0 HR0
          have ix1 : (4 : Int) + (j : Int) + 2 < (l.length : Int) + 4 := by omega
          go_wp2
          go_region
          all_goals
            clear hX hcell hfz
            go_wp2
            go_roundw
            case rel => exact ⟨3, by omega, rfl, HR.out.drew⟩
            case measure => simp [intOf]
        · have hX := xk3 b by_ hb256 hby
          have hcell : wr.cell? ⟨g, 4 + j + 3, none⟩ = some (.int .u8 b) := hc0
          have hfz : wr.frozen? ⟨g, 4 + j + 3, none⟩ = false := hf0
          have HR : Hid (SpRel w2 w1.heap.size (.slice (some ⟨g, 0, none⟩) (l.length + 4) c2) (l.length + 4) S (4 + j) by_ 4 (wr.setCell ⟨g, 4 + j + 3, none⟩ (.int .u8 ((b ^^^ by_ / 2 ^ (8 * 3) % 256 : Nat) : Int)))) := HR0.out
          generalize ((b ^^^ by_ / 2 ^ (8 * 3) % 256 : Nat) : Int) = V at *
          clear hc0 hf0 HR0
          have ix1 : (4 : Int) + (j : Int) + 3 < (l.length : Int) + 4 := by omega
          go_wp2
          go_region
          all_goals
            clear hX hcell hfz
            go_wp2
            go_roundw
            case rel => exact ⟨4, by omega, rfl, HR.out.drew⟩
            case measure => simp [intOf]
      · obtain rfl : k = 4 := by omega
        obtain ⟨q1, q2⟩ := hR
        have bw3 : Below w.heap.size w wr := bw2.grown q2 s2 (fun k hk => by simp [Value.ownBlock] at hk; omega)
        have s3 := bw3.size
        have hL0 : opL (sp S (4 + j) by_ 4) = [] := by unfold opL; rw [HS.out]; rfl
        have HK := open_own _ _ _ _ _ (by rw [sp_length, HSl.out]) q1 (by omega) (sp_byt YS.out _ _ _) (HT.out.below bw3 hpos)
        rw [HS.out, hL0] at HK
        have HK := Lib.hid HK
        clear q1 q2 hL0
        go_wp2_with fail
        refine HK.out.mono ?_
        clear HK HS YS HSl H2
        rintro e wT ⟨vT, rfl, hoT, hbT0⟩
        have hbT := bw3.trans (hbT0.mono s3)
        have sT := hbT.size
        obtain ⟨AT, cT, rfl, _, _, _⟩ := own_lies hoT
        simp only [List.length_nil]
        clear hoT hbT0 bw3 s3
        go_wp2_with fail
        refine (sealO A l l.length c _ rfl hc hcm (by omega) ((HL.out.below hbT).more sT) HY.out (HT.out.below hbT hpos)).mono ?_
        rintro e w5 ⟨v5, rfl, ho5, hb5⟩
        rw [seal_length] at ho5
        obtain ⟨A3, c3, rfl, h31, h32, _⟩ := own_lies ho5
        obtain ⟨g3, rfl, hg3⟩ := own_addr ho5 (by omega)
        have bw5 := hbT.trans (hb5.mono sT)
        have H5 := Lib.hid ho5
        have B5 := Lib.hid bw5
        have HS2 := Lib.hid (spoilt_sum (l := l) hsm)
        have YS2 := Lib.hid (seal_byt HY.out)
        have hSl2 := seal_length l
        unfold maxLen at h32
        generalize four (crcI l) ++ l = S2 at *
        have HSl2 := Lib.hid hSl2
        clear ho5 hb5 hSl2 bw5
        have hst : SpRel w5 wT.heap.size (.slice (some ⟨g3, 0, none⟩) (l.length + 4) c3) (l.length + 4) S2 0 sm 0 w5 := ⟨H5.out, World.grownBy.refl _ _⟩
        go_wp2
        go_loopw [16] (fun i wr => ∃ k : Nat, k ≤ 4 ∧ i = .int .i64 k ∧ SpRel w5 wT.heap.size (.slice (some ⟨g3, 0, none⟩) (l.length + 4) c3) (l.length + 4) S2 0 sm k wr) (fun i _ => 4 - (intOf i).toNat)
        case atStart => exact ⟨0, Nat.zero_le _, rfl, hst⟩
        case round =>
          clear hst
          obtain ⟨k, hk, rfl, hR⟩ := hrel
          by_cases hkl : k < 4
          · have hgS : S2[0 + k]? = some (S2[0 + k]'(by rw [HSl2.out]; omega)) := List.getElem?_eq_getElem _
            have hbb := YS2.out _ (List.mem_of_getElem? hgS)
            obtain ⟨b, hbe⟩ := Int.eq_ofNat_of_zero_le hbb.1
            rw [hbe] at hgS hbb
            have HR0 := Lib.hid (hR.step hgS)
            obtain ⟨hc0, hf0⟩ := hR.cell hgS
            have hb256 : b < 256 := by omega
            clear hgS hbb hbe hR
            rcases (show k = 0 ∨ k = 1 ∨ k = 2 ∨ k = 3 by omega) with rfl | rfl | rfl | rfl
            · have hX := xk0 b sm hb256
              have hcell : wr.cell? ⟨g3, 0, none⟩ = some (.int .u8 b) := hc0
              have hfz : wr.frozen? ⟨g3, 0, none⟩ = false := hf0
              have HR : Hid (SpRel w5 wT.heap.size (.slice (some ⟨g3, 0, none⟩) (l.length + 4) c3) (l.length + 4) S2 0 sm 1 (wr.setCell ⟨g3, 0, none⟩ (.int .u8 ((b ^^^ sm / 2 ^ (8 * 0) % 256 : Nat) : Int)))) := HR0.out
              generalize ((b ^^^ sm / 2 ^ (8 * 0) % 256 : Nat) : Int) = V at *
              clear hc0 hf0 HR0
              have ix1 : (0 : Int) < (l.length : Int) + 4 := by omega
              go_wp2
              go_region
              all_goals
                clear hX hcell hfz
                go_wp2
                go_roundw
                case rel => exact ⟨1, by omega, rfl, HR.out.drew⟩
                case measure => simp [intOf]
            · have hX := xk1 b sm hb256
              have hcell : wr.cell? ⟨g3, 1, none⟩ = some (.int .u8 b) := hc0
              have hfz : wr.frozen? ⟨g3, 1, none⟩ = false := hf0
              have HR : Hid (SpRel w5 wT.heap.size (.slice (some ⟨g3, 0, none⟩) (l.length + 4) c3) (l.length + 4) S2 0 sm 2 (wr.setCell ⟨g3, 1, none⟩ (.int .u8 ((b ^^^ sm / 2 ^ (8 * 1) % 256 : Nat) : Int)))) := HR0.out
              generalize ((b ^^^ sm / 2 ^ (8 * 1) % 256 : Nat) : Int) = V at *
              clear hc0 hf0 HR0
              have ix1 : (1 : Int) < (l.length : Int) + 4 := by omega
              go_wp2
              go_region
              all_goals
                clear hX hcell hfz
                go_wp2
                go_roundw
                case rel => exact ⟨2, by omega, rfl, HR.out.drew⟩
                case measure => simp [intOf]
            · have hX := xk2 b sm hb256
              have hcell : wr.cell? ⟨g3, 2, none⟩ = some (.int .u8 b) := hc0
              have hfz : wr.frozen? ⟨g3, 2, none⟩ = false := hf0
              have HR : Hid (SpRel w5 wT.heap.size (.slice (some ⟨g3, 0, none⟩) (l.length + 4) c3) (l.length + 4) S2 0 sm 3 (wr.setCell ⟨g3, 2, none⟩ (.int .u8 ((b ^^^ sm / 2 ^ (8 * 2) % 256 : Nat) : Int)))) := HR0.out
              generalize ((b ^^^ sm / 2 ^ (8 * 2) % 256 : Nat) : Int) = V at *
              clear hc0 hf0 HR0
              have ix1 : (2 : Int) < (l.length : Int) + 4 := by omega
              go_wp2
              go_region
              all_goals
                clear hX hcell hfz
                go_wp2
                go_roundw
                case rel => exact ⟨3, by omega, rfl, HR.out.drew⟩
                case measure => simp [intOf]
            · have hX := xk3 b sm hb256 hsm
              have hcell : wr.cell? ⟨g3, 3, none⟩ = some (.int .u8 b) := hc0
              have hfz : wr.frozen? ⟨g3, 3, none⟩ = false := hf0
              have HR : Hid (SpRel w5 wT.heap.size (.slice (some ⟨g3, 0, none⟩) (l.length + 4) c3) (l.length + 4) S2 0 sm 4 (wr.setCell ⟨g3, 3, none⟩ (.int .u8 ((b ^^^ sm / 2 ^ (8 * 3) % 256 : Nat) : Int)))) := HR0.out
              generalize ((b ^^^ sm / 2 ^ (8 * 3) % 256 : Nat) : Int) = V at *
              clear hc0 hf0 HR0
              have ix1 : (3 : Int) < (l.length : Int) + 4 := by omega
              go_wp2
              go_region
              all_goals
                clear hX hcell hfz
                go_wp2
                go_roundw
                case rel => exact ⟨4, by omega, rfl, HR.out.drew⟩
                case measure => simp [intOf]
          · obtain rfl : k = 4 := by omega
            obtain ⟨r1, r2⟩ := hR
            have bw6 : Below w.heap.size w wr := B5.out.grown r2 B5.out.size (fun k hk => by simp [Value.ownBlock] at hk; omega)
            have s6 := bw6.size
            go_wp2_with fail
            refine (open_own _ _ _ _ _ (by rw [sp_length, HSl2.out]) r1 (by omega) (sp_byt YS2.out _ _ _) (HT.out.below bw6 hpos)).mono ?_
            rw [HS2.out]
            rintro e w7 ⟨v7, rfl, _, hb7⟩
            have bw7 := bw6.trans (hb7.mono s6)
            clear r1 r2 hb7 bw6 s6
            by_cases h0 : sm = 0
            · rw [if_pos h0]
              have e1 : ((sm : Int) == 0) = true := by simpa using h0
              clear h0
              go_wp2
              go_ret
              exact ⟨rfl, bw7⟩
            · rw [if_neg h0]
              have e1 : ((sm : Int) == 0) = false := by simpa using h0
              clear h0
              go_wp2
              go_ret
              exact ⟨rfl, bw7⟩
  · have hbT := bw2
    have sT := s2
    clear H2 bw2
    have dec : (4 ≤ l.length ∧ by_ = 0) ∨ l.length < 4 := by omega
    rcases dec with ⟨h4, rfl⟩ | h4
    · have d1 : decide ((4 : Int) ≤ (l.length : Int)) = true := by simp; omega
      go_wp2_with fail
      refine (sealO A l l.length c _ rfl hc hcm (by omega) ((HL.out.below hbT).more sT) HY.out (HT.out.below hbT hpos)).mono ?_
      rintro e w5 ⟨v5, rfl, ho5, hb5⟩
      rw [seal_length] at ho5
      obtain ⟨A3, c3, rfl, h31, h32, _⟩ := own_lies ho5
      obtain ⟨g3, rfl, hg3⟩ := own_addr ho5 (by omega)
      have bw5 := hbT.trans (hb5.mono sT)
      have H5 := Lib.hid ho5
      have B5 := Lib.hid bw5
      have HS2 := Lib.hid (spoilt_sum (l := l) hsm)
      have YS2 := Lib.hid (seal_byt HY.out)
      have hSl2 := seal_length l
      unfold maxLen at h32
      generalize four (crcI l) ++ l = S2 at *
      have HSl2 := Lib.hid hSl2
      clear ho5 hb5 hSl2 bw5
      have hst : SpRel w5 w2.heap.size (.slice (some ⟨g3, 0, none⟩) (l.length + 4) c3) (l.length + 4) S2 0 sm 0 w5 := ⟨H5.out, World.grownBy.refl _ _⟩
      go_wp2
      go_loopw [16] (fun i wr => ∃ k : Nat, k ≤ 4 ∧ i = .int .i64 k ∧ SpRel w5 w2.heap.size (.slice (some ⟨g3, 0, none⟩) (l.length + 4) c3) (l.length + 4) S2 0 sm k wr) (fun i _ => 4 - (intOf i).toNat)
      case atStart => exact ⟨0, Nat.zero_le _, rfl, hst⟩
      case round =>
        clear hst
        obtain ⟨k, hk, rfl, hR⟩ := hrel
        by_cases hkl : k < 4
        · have hgS : S2[0 + k]? = some (S2[0 + k]'(by rw [HSl2.out]; omega)) := List.getElem?_eq_getElem _
          have hbb := YS2.out _ (List.mem_of_getElem? hgS)
          obtain ⟨b, hbe⟩ := Int.eq_ofNat_of_zero_le hbb.1
          rw [hbe] at hgS hbb
          have HR0 := Lib.hid (hR.step hgS)
          obtain ⟨hc0, hf0⟩ := hR.cell hgS
          have hb256 : b < 256 := by omega
          clear hgS hbb hbe hR
          rcases (show k = 0 ∨ k = 1 ∨ k = 2 ∨ k = 3 by omega) with rfl | rfl | rfl | rfl
          · have hX := xk0 b sm hb256
            have hcell : wr.cell? ⟨g3, 0, none⟩ = some (.int .u8 b) := hc0
            have hfz : wr.frozen? ⟨g3, 0, none⟩ = false := hf0
            have HR : Hid (SpRel w5 w2.heap.size (.slice (some ⟨g3, 0, none⟩) (l.length + 4) c3) (l.length + 4) S2 0 sm 1 (wr.setCell ⟨g3, 0, none⟩ (.int .u8 ((b ^^^ sm / 2 ^ (8 * 0) % 256 : Nat) : Int)))) := HR0.out
            generalize ((b ^^^ sm / 2 ^ (8 * 0) % 256 : Nat) : Int) = V at *
            clear hc0 hf0 HR0
            have ix1 : (0 : Int) < (l.length : Int) + 4 := by omega
            go_wp2
            go_region
            all_goals
              clear hX hcell hfz
              go_wp2
              go_roundw
              case rel => exact ⟨1, by omega, rfl, HR.out.drew⟩
              case measure => simp [intOf]
          · have hX := xk1 b sm hb256
            have hcell : wr.cell? ⟨g3, 1, none⟩ = some (.int .u8 b) := hc0
            have hfz : wr.frozen? ⟨g3, 1, none⟩ = false := hf0
            have HR : Hid (SpRel w5 w2.heap.size (.slice (some ⟨g3, 0, none⟩) (l.length + 4) c3) (l.length + 4) S2 0 sm 2 (wr.setCell ⟨g3, 1, none⟩ (.int .u8 ((b ^^^ sm / 2 ^ (8 * 1) % 256 : Nat) : Int)))) := HR0.out
            generalize ((b ^^^ sm / 2 ^ (8 * 1) % 256 : Nat) : Int) = V at *
            clear hc0 hf0 HR0
            have ix1 : (1 : Int) < (l.length : Int) + 4 := by omega
            go_wp2
            go_region
            all_goals
              clear hX hcell hfz
              go_wp2
              go_roundw
              case rel => exact ⟨2, by omega, rfl, HR.out.drew⟩
              case measure => simp [intOf]
          · have hX := xk2 b sm hb256
            have hcell : wr.cell? ⟨g3, 2, none⟩ = some (.int .u8 b) := hc0
            have hfz : wr.frozen? ⟨g3, 2, none⟩ = false := hf0
            have HR : Hid (SpRel w5 w2.heap.size (.slice (some ⟨g3, 0, none⟩) (l.length + 4) c3) (l.length + 4) S2 0 sm 3 (wr.setCell ⟨g3, 2, none⟩ (.int .u8 ((b ^^^ sm / 2 ^ (8 * 2) % 256 : Nat) : Int)))) := HR0.out
            generalize ((b ^^^ sm / 2 ^ (8 * 2) % 256 : Nat) : Int) = V at *
            clear hc0 hf0 HR0
            have ix1 : (2 : Int) < (l.length : Int) + 4 := by omega
            go_wp2
            go_region
            all_goals
              clear hX hcell hfz
              go_wp2
              go_roundw
              case rel => exact ⟨3, by omega, rfl, HR.out.drew⟩
              case measure => simp [intOf]
          · have hX := xk3 b sm hb256 hsm
            have hcell : wr.cell? ⟨g3, 3, none⟩ = some (.int .u8 b) := hc0
            have hfz : wr.frozen? ⟨g3, 3, none⟩ = false := hf0
            have HR : Hid (SpRel w5 w2.heap.size (.slice (some ⟨g3, 0, none⟩) (l.length + 4) c3) (l.length + 4) S2 0 sm 4 (wr.setCell ⟨g3, 3, none⟩ (.int .u8 ((b ^^^ sm / 2 ^ (8 * 3) % 256 : Nat) : Int)))) := HR0.out
            generalize ((b ^^^ sm / 2 ^ (8 * 3) % 256 : Nat) : Int) = V at *
            clear hc0 hf0 HR0
            have ix1 : (3 : Int) < (l.length : Int) + 4 := by omega
            go_wp2
            go_region
            all_goals
              clear hX hcell hfz
              go_wp2
              go_roundw
              case rel => exact ⟨4, by omega, rfl, HR.out.drew⟩
              case measure => simp [intOf]
        · obtain rfl : k = 4 := by omega
          obtain ⟨r1, r2⟩ := hR
          have bw6 : Below w.heap.size w wr := B5.out.grown r2 B5.out.size (fun k hk => by simp [Value.ownBlock] at hk; omega)
          have s6 := bw6.size
          go_wp2_with fail
          refine (open_own _ _ _ _ _ (by rw [sp_length, HSl2.out]) r1 (by omega) (sp_byt YS2.out _ _ _) (HT.out.below bw6 hpos)).mono ?_
          rw [HS2.out]
          rintro e w7 ⟨v7, rfl, _, hb7⟩
          have bw7 := bw6.trans (hb7.mono s6)
          clear r1 r2 hb7 bw6 s6
          by_cases h0 : sm = 0
          · rw [if_pos h0]
            have e1 : ((sm : Int) == 0) = true := by simpa using h0
            clear h0
            go_wp2
            go_ret
            exact ⟨rfl, bw7⟩
          · rw [if_neg h0]
            have e1 : ((sm : Int) == 0) = false := by simpa using h0
            clear h0
            go_wp2
            go_ret
            exact ⟨rfl, bw7⟩
    · have d1 : decide ((4 : Int) ≤ (l.length : Int)) = false := by simp; omega
      go_wp2_with fail
      refine (sealO A l l.length c _ rfl hc hcm (by omega) ((HL.out.below hbT).more sT) HY.out (HT.out.below hbT hpos)).mono ?_
      rintro e w5 ⟨v5, rfl, ho5, hb5⟩
      rw [seal_length] at ho5
      obtain ⟨A3, c3, rfl, h31, h32, _⟩ := own_lies ho5
      obtain ⟨g3, rfl, hg3⟩ := own_addr ho5 (by omega)
      have bw5 := hbT.trans (hb5.mono sT)
      have H5 := Lib.hid ho5
      have B5 := Lib.hid bw5
      have HS2 := Lib.hid (spoilt_sum (l := l) hsm)
      have YS2 := Lib.hid (seal_byt HY.out)
      have hSl2 := seal_length l
      unfold maxLen at h32
      generalize four (crcI l) ++ l = S2 at *
      have HSl2 := Lib.hid hSl2
      clear ho5 hb5 hSl2 bw5
      have hst : SpRel w5 w2.heap.size (.slice (some ⟨g3, 0, none⟩) (l.length + 4) c3) (l.length + 4) S2 0 sm 0 w5 := ⟨H5.out, World.grownBy.refl _ _⟩
      go_wp2
      go_loopw [16] (fun i wr => ∃ k : Nat, k ≤ 4 ∧ i = .int .i64 k ∧ SpRel w5 w2.heap.size (.slice (some ⟨g3, 0, none⟩) (l.length + 4) c3) (l.length + 4) S2 0 sm k wr) (fun i _ => 4 - (intOf i).toNat)
      case atStart => exact ⟨0, Nat.zero_le _, rfl, hst⟩
      case round =>
        clear hst
        obtain ⟨k, hk, rfl, hR⟩ := hrel
        by_cases hkl : k < 4
        · have hgS : S2[0 + k]? = some (S2[0 + k]'(by rw [HSl2.out]; omega)) := List.getElem?_eq_getElem _
          have hbb := YS2.out _ (List.mem_of_getElem? hgS)
          obtain ⟨b, hbe⟩ := Int.eq_ofNat_of_zero_le hbb.1
          rw [hbe] at hgS hbb
          have HR0 := Lib.hid (hR.step hgS)
          obtain ⟨hc0, hf0⟩ := hR.cell hgS
          have hb256 : b < 256 := by omega
          clear hgS hbb hbe hR
          rcases (show k = 0 ∨ k = 1 ∨ k = 2 ∨ k = 3 by omega) with rfl | rfl | rfl | rfl
          · have hX := xk0 b sm hb256
            have hcell : wr.cell? ⟨g3, 0, none⟩ = some (.int .u8 b) := hc0
            have hfz : wr.frozen? ⟨g3, 0, none⟩ = false := hf0
            have HR : Hid (SpRel w5 w2.heap.size (.slice (some ⟨g3, 0, none⟩) (l.length + 4) c3) (l.length + 4) S2 0 sm 1 (wr.setCell ⟨g3, 0, none⟩ (.int .u8 ((b ^^^ sm / 2 ^ (8 * 0) % 256 : Nat) : Int)))) := HR0.out
            generalize ((b ^^^ sm / 2 ^ (8 * 0) % 256 : Nat) : Int) = V at *
            clear hc0 hf0 HR0
            have ix1 : (0 : Int) < (l.length : Int) + 4 := by omega
            go_wp2
            go_region
            all_goals
              clear hX hcell hfz
              go_wp2
              go_roundw
              case rel => exact ⟨1, by omega, rfl, HR.out.drew⟩
              case measure => simp [intOf]
          · have hX := xk1 b sm hb256
            have hcell : wr.cell? ⟨g3, 1, none⟩ = some (.int .u8 b) := hc0
            have hfz : wr.frozen? ⟨g3, 1, none⟩ = false := hf0
            have HR : Hid (SpRel w5 w2.heap.size (.slice (some ⟨g3, 0, none⟩) (l.length + 4) c3) (l.length + 4) S2 0 sm 2 (wr.setCell ⟨g3, 1, none⟩ (.int .u8 ((b ^^^ sm / 2 ^ (8 * 1) % 256 : Nat) : Int)))) := HR0.out
            generalize ((b ^^^ sm / 2 ^ (8 * 1) % 256 : Nat) : Int) = V at *
            clear hc0 hf0 HR0
            have ix1 : (1 : Int) < (l.length : Int) + 4 := by omega
            go_wp2
            go_region
            all_goals
              clear hX hcell hfz
              go_wp2
              go_roundw
              case rel => exact ⟨2, by omega, rfl, HR.out.drew⟩
              case measure => simp [intOf]
          · have hX := xk2 b sm hb256
            have hcell : wr.cell? ⟨g3, 2, none⟩ = some (.int .u8 b) := hc0
            have hfz : wr.frozen? ⟨g3, 2, none⟩ = false := hf0
            have HR : Hid (SpRel w5 w2.heap.size (.slice (some ⟨g3, 0, none⟩) (l.length + 4) c3) (l.length + 4) S2 0 sm 3 (wr.setCell ⟨g3, 2, none⟩ (.int .u8 ((b ^^^ sm / 2 ^ (8 * 2) % 256 : Nat) : Int)))) := HR0.out
            generalize ((b ^^^ sm / 2 ^ (8 * 2) % 256 : Nat) : Int) = V at *
            clear hc0 hf0 HR0
            have ix1 : (2 : Int) < (l.length : Int) + 4 := by omega
            go_wp2
            go_region
            all_goals
              clear hX hcell hfz
              go_wp2
              go_roundw
              case rel => exact ⟨3, by omega, rfl, HR.out.drew⟩
              case measure => simp [intOf]
          · have hX := xk3 b sm hb256 hsm
            have hcell : wr.cell? ⟨g3, 3, none⟩ = some (.int .u8 b) := hc0
            have hfz : wr.frozen? ⟨g3, 3, none⟩ = false := hf0
            have HR : Hid (SpRel w5 w2.heap.size (.slice (some ⟨g3, 0, none⟩) (l.length + 4) c3) (l.length + 4) S2 0 sm 4 (wr.setCell ⟨g3, 3, none⟩ (.int .u8 ((b ^^^ sm / 2 ^ (8 * 3) % 256 : Nat) : Int)))) := HR0.out
            generalize ((b ^^^ sm / 2 ^ (8 * 3) % 256 : Nat) : Int) = V at *
            clear hc0 hf0 HR0
            have ix1 : (3 : Int) < (l.length : Int) + 4 := by omega
            go_wp2
            go_region
            all_goals
              clear hX hcell hfz
              go_wp2
              go_roundw
              case rel => exact ⟨4, by omega, rfl, HR.out.drew⟩
              case measure => simp [intOf]
        · obtain rfl : k = 4 := by omega
          obtain ⟨r1, r2⟩ := hR
          have bw6 : Below w.heap.size w wr := B5.out.grown r2 B5.out.size (fun k hk => by simp [Value.ownBlock] at hk; omega)
          have s6 := bw6.size
          go_wp2_with fail
          refine (open_own _ _ _ _ _ (by rw [sp_length, HSl2.out]) r1 (by omega) (sp_byt YS2.out _ _ _) (HT.out.below bw6 hpos)).mono ?_
          rw [HS2.out]
          rintro e w7 ⟨v7, rfl, _, hb7⟩
          have bw7 := bw6.trans (hb7.mono s6)
          clear r1 r2 hb7 bw6 s6
          by_cases h0 : sm = 0
          · rw [if_pos h0]
            have e1 : ((sm : Int) == 0) = true := by simpa using h0
            clear h0
            go_wp2
            go_ret
            exact ⟨rfl, bw7⟩
          · rw [if_neg h0]
            have e1 : ((sm : Int) == 0) = false := by simpa using h0
            clear h0
            go_wp2
            go_ret
            exact ⟨rfl, bw7⟩
end Go.Proofs.YtjilifodmmhnkaaDoor
