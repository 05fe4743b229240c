/- The walk of JournalCounts. Conditions: what came in lies in memory. -/
import Derived.Test.YtncbbjodianmoaaJm
import Derived.Test.YtncbbjodianmoaaVo
namespace Go.Proofs.Ytncbbjodianmoaa
open Go.RowKit
set_option linter.unusedSimpArgs false
set_option linter.unusedVariables false

set_option maxHeartbeats 400000 in
theorem greatC (A : Option Addr) (n c : Nat) (w : World) (h : 300 < n) : Calls Try.prog 11 #[.slice A n c] w fun e w' => e = .returned (.bool true) ∧ w = w' := by
  go_enter Try.func11, Try.ntmps11
  go_wp2
  go_ret
  exact ⟨by simp; omega, rfl⟩
set_option maxHeartbeats 400000 in
theorem smallC (A : Option Addr) (n c : Nat) (w : World) (h : n ≤ 300) : Calls Try.prog 11 #[.slice A n c] w fun e w' => e = .returned (.bool false) ∧ w = w' := by
  go_enter Try.func11, Try.ntmps11
  go_wp2
  go_ret
  exact ⟨by simp; omega, rfl⟩

set_option maxHeartbeats 3200000 in
theorem countsC (W : World) (A : Option Addr) (ls : List PR) (c : Nat) (hp : Prs W W.heap.size A c ls) (hc : ls.length ≤ c) (hm : c ≤ maxLen) (hl : ls.length ≤ 2932031007402) (Ao : Option Addr) (ops : List OpT) (co : Nat) (ho : OpsB W W.heap.size Ao ops) (hco : ops.length ≤ co) (hmo : co ≤ maxLen) (mk : Nat) (hmk : mk < 256) :
    Calls Try.prog 6 #[.slice A ls.length c, .slice Ao ops.length co, .int .u8 mk] W fun e w' => e = .returned (.bool true) ∧ Below W.heap.size W w' := by
  have HP := Lib.hid hp
  have HO := Lib.hid ho
  have K0 := Lib.hid (headC W)
  have hm' := hm
  clear hp ho
  unfold maxLen at hm hmo
  by_cases hr : RightM ls
  · by_cases hg : 300 < ops.length
    · go_enter Try.func6, Try.ntmps6
      go_wp2_with fail
      (with_reducible refine K0.out.mono ?_)
      rintro e w1 ⟨rfl, hb1⟩
      have HB1 := Lib.hid hb1
      have K1 := Lib.hid (newC A ls c w1 (HP.out.on hb1) hc hm' hl hr)
      clear hb1
      go_wp2_with fail
      (with_reducible refine K1.out.mono ?_)
      rintro e w2 h
      obtain ⟨J, rfl, hJ, hj, hb2⟩ := h.jr (n0 := W.heap.size) hr HB1.out.size
      have HB2 := Lib.hid (HB1.out.trans (hb2.mono HB1.out.size))
      clear h hj hb2
      go_wp2_with (go_at_call 11; refine (greatC _ _ _ _ hg).mono ?_; rintro e w3 ⟨rfl, rfl⟩)
      go_ret
      exact ⟨rfl, HB2.out⟩
    · have hs : ops.length ≤ 300 := by omega
      clear hg
      go_enter Try.func6, Try.ntmps6
      go_wp2_with fail
      (with_reducible refine K0.out.mono ?_)
      rintro e w1 ⟨rfl, hb1⟩
      have HB1 := Lib.hid hb1
      have K1 := Lib.hid (newC A ls c w1 (HP.out.on hb1) hc hm' hl hr)
      clear hb1
      go_wp2_with fail
      (with_reducible refine K1.out.mono ?_)
      rintro e w2 h
      obtain ⟨J, rfl, hJ, hj, hb2⟩ := h.jr (n0 := W.heap.size) hr HB1.out.size
      have HB2 := Lib.hid (HB1.out.trans (hb2.mono HB1.out.size))
      have HJ := Lib.hid hj
      clear h hj hb2 K0 K1 hr HP HB1 hm hm' hl
      go_wp2_with (go_at_call 11; refine (smallC _ _ _ _ hs).mono ?_; rintro e w3 ⟨rfl, rfl⟩)
      go_loopw [9, 10] (fun n i wr => ∃ (k : Nat) (hs : List (List PR)) (cur : List PR), k ≤ ops.length ∧ i = .int .i64 k ∧ n = .int .i64 hs.length ∧ hs.length ≤ k ∧ Hid (Jr W.heap.size wr J hs cur ∧ Below W.heap.size W wr)) (fun _ i _ => ops.length - (intOf i).toNat)
      case atStart => exact ⟨0, [], ls, Nat.zero_le _, rfl, rfl, Nat.le_refl _, HJ.out, HB2.out⟩
      case round =>
        clear HJ HB2
        obtain ⟨k, hs1, cur, hk, rfl, rfl, hle, HR⟩ := hrel
        by_cases hlt : k < ops.length
        · have hg : ops[k]? = some ops[k] := List.getElem?_eq_getElem hlt
          generalize ops[k] = o at hg
          obtain ⟨b, off, rfl, Ak, ck, Av, cv, hB, x1, x2, x3, x4, s1, s2, r1, r2⟩ := (HO.out.below HR.out.2) k o hg
          have s1' := s1.more (HR.out.2.size)
          have s2' := s2.more (HR.out.2.size)
          have HS : Hid (∀ w', Below W.heap.size wr w' → w'.cell? ⟨b, off + k * 4, none⟩ = some (.int .i64 o.what) ∧ w'.cell? ⟨b, off + k * 4 + 1, none⟩ = some (.slice Ak o.key.length ck) ∧ w'.cell? ⟨b, off + k * 4 + 2, none⟩ = some (.slice Av o.val.length cv)) := fun w' hb =>
            ⟨by rw [hb.cell (p := ⟨b, off + k * 4, none⟩) hB]; exact x1, by rw [hb.cell (p := ⟨b, off + k * 4 + 1, none⟩) hB]; exact x2, by rw [hb.cell (p := ⟨b, off + k * 4 + 2, none⟩) hB]; exact x3⟩
          have KP := Lib.hid (putJC W.heap.size wr.drew J hs1 cur (HR.out.1.on (Below.refl _ _).drew) (by omega) Ak o.key ck Av o.val cv (s1'.on (Below.refl _ _).drew) (s2'.on (Below.refl _ _).drew))
          have KD := Lib.hid (delJC W.heap.size wr J hs1 cur HR.out.1 (by omega) Ak o.key ck s1')
          clear s1 s2 s1' s2' x4 r2 hg
          cases hq : (bits BinOp.and IntKind.i64 o.what 1 == 0) with
          | true =>
            go_wp2_with fail
            refine wp_region_held_drew (S := fun w' => w'.cell? ⟨b, off + k * 4, none⟩ = some (.int .i64 o.what) ∧ w'.cell? ⟨b, off + k * 4 + 1, none⟩ = some (.slice Ak o.key.length ck) ∧ w'.cell? ⟨b, off + k * 4 + 2, none⟩ = some (.slice Av o.val.length cv)) (by kernel_rfl) (HS.out _ (Below.refl _ _).drew) (fun hHeld => ?_)
            refine wpAnyH_take (i := 0) (v := ?vp1) rfl (by kernel_rfl) (by kernel_rfl) (by kernel_rfl) (fun _ _ _ h => h) (Or.inl ⟨by kernel_rfl, ?yp1⟩) (by assumption) ?rp1
            case yp1 => (intro w hSw; (try dsimp only at hSw); obtain ⟨s1, s2, s3⟩ := hSw; go_simp; (try with_reducible rfl))
            try simp only [Act.put, List.getElem_toArray, List.getElem_cons_zero, List.getElem_cons_succ, List.setIfInBounds_toArray, List.set_cons_zero, List.set_cons_succ]
            refine wpAnyH_take (i := 1) (v := ?vp2) rfl (by kernel_rfl) (by kernel_rfl) (by kernel_rfl) (fun _ _ _ h => h) (Or.inl ⟨by kernel_rfl, ?yp2⟩) (by assumption) ?rp2
            case yp2 => (intro w hSw; (try dsimp only at hSw); obtain ⟨s1, s2, s3⟩ := hSw; go_simp; (try with_reducible rfl))
            try simp only [Act.put, List.getElem_toArray, List.getElem_cons_zero, List.getElem_cons_succ, List.setIfInBounds_toArray, List.set_cons_zero, List.set_cons_succ]
            refine wpAnyH_take (i := 2) (v := ?vp3) rfl (by kernel_rfl) (by kernel_rfl) (by kernel_rfl) (fun _ _ _ h => h) (Or.inl ⟨by kernel_rfl, ?yp3⟩) (by assumption) ?rp3
            case yp3 => (intro w hSw; (try dsimp only at hSw); obtain ⟨s1, s2, s3⟩ := hSw; go_simp; (try with_reducible rfl))
            try simp only [Act.put, List.getElem_toArray, List.getElem_cons_zero, List.getElem_cons_succ, List.setIfInBounds_toArray, List.set_cons_zero, List.set_cons_succ]
            refine wpAnyH_take (i := 3) (v := ?vp4) rfl (by kernel_rfl) (by kernel_rfl) (by kernel_rfl) (fun _ _ _ h => h) (Or.inl ⟨by kernel_rfl, ?yp4⟩) (by assumption) ?rp4
            case yp4 => (intro w hSw; (try dsimp only at hSw); obtain ⟨s1, s2, s3⟩ := hSw; go_simp; (try with_reducible rfl))
            try simp only [Act.put, List.getElem_toArray, List.getElem_cons_zero, List.getElem_cons_succ, List.setIfInBounds_toArray, List.set_cons_zero, List.set_cons_succ]
            refine wpAnyH_take (i := 4) (v := ?vp5) rfl (by kernel_rfl) (by kernel_rfl) (by kernel_rfl) (fun _ _ _ h => h) (Or.inl ⟨by kernel_rfl, ?yp5⟩) (by assumption) ?rp5
            case yp5 => (intro w hSw; (try dsimp only at hSw); obtain ⟨s1, s2, s3⟩ := hSw; go_simp; (try with_reducible rfl))
            try simp only [Act.put, List.getElem_toArray, List.getElem_cons_zero, List.getElem_cons_succ, List.setIfInBounds_toArray, List.set_cons_zero, List.set_cons_succ]
            refine wpAnyH_take (i := 5) (v := ?vp6) rfl (by kernel_rfl) (by kernel_rfl) (by kernel_rfl) (fun _ _ _ h => h) (Or.inl ⟨by kernel_rfl, ?yp6⟩) (by assumption) ?rp6
            case yp6 => (intro w hSw; (try dsimp only at hSw); obtain ⟨s1, s2, s3⟩ := hSw; go_simp; (try with_reducible rfl))
            try simp only [Act.put, List.getElem_toArray, List.getElem_cons_zero, List.getElem_cons_succ, List.setIfInBounds_toArray, List.set_cons_zero, List.set_cons_succ]
            refine wpAnyH_take (i := 6) (v := ?vp7) rfl (by kernel_rfl) (by kernel_rfl) (by kernel_rfl) (fun _ _ _ h => h) (Or.inl ⟨by kernel_rfl, ?yp7⟩) (by assumption) ?rp7
            case yp7 => (intro w hSw; (try dsimp only at hSw); obtain ⟨s1, s2, s3⟩ := hSw; go_simp; (try with_reducible rfl))
            try simp only [Act.put, List.getElem_toArray, List.getElem_cons_zero, List.getElem_cons_succ, List.setIfInBounds_toArray, List.set_cons_zero, List.set_cons_succ]
            refine wpAnyH_take (i := 7) (v := ?vp8) rfl (by kernel_rfl) (by kernel_rfl) (by kernel_rfl) (fun _ _ _ h => h) (Or.inl ⟨by kernel_rfl, ?yp8⟩) (by assumption) ?rp8
            case yp8 => (intro w hSw; (try dsimp only at hSw); obtain ⟨s1, s2, s3⟩ := hSw; go_simp; (try with_reducible rfl))
            try simp only [Act.put, List.getElem_toArray, List.getElem_cons_zero, List.getElem_cons_succ, List.setIfInBounds_toArray, List.set_cons_zero, List.set_cons_succ]
            refine wpAnyH_take (i := 8) (v := ?vp9) rfl (by kernel_rfl) (by kernel_rfl) (by kernel_rfl) (fun _ _ _ h => h) (Or.inl ⟨by kernel_rfl, ?yp9⟩) (by assumption) ?rp9
            case yp9 => (intro w hSw; (try dsimp only at hSw); obtain ⟨s1, s2, s3⟩ := hSw; go_simp; (try with_reducible rfl))
            try simp only [Act.put, List.getElem_toArray, List.getElem_cons_zero, List.getElem_cons_succ, List.setIfInBounds_toArray, List.set_cons_zero, List.set_cons_succ]
            refine wpAnyH_take (i := 9) (v := ?vp10) rfl (by kernel_rfl) (by kernel_rfl) (by kernel_rfl) (fun _ _ _ h => h) (Or.inl ⟨by kernel_rfl, ?yp10⟩) (by assumption) ?rp10
            case yp10 => (intro w hSw; (try dsimp only at hSw); obtain ⟨s1, s2, s3⟩ := hSw; go_simp; (try with_reducible rfl))
            try simp only [Act.put, List.getElem_toArray, List.getElem_cons_zero, List.getElem_cons_succ, List.setIfInBounds_toArray, List.set_cons_zero, List.set_cons_succ]
            refine wpAnyH_take (i := 10) (v := ?vp11) rfl (by kernel_rfl) (by kernel_rfl) (by kernel_rfl) (fun _ _ _ h => h) (Or.inl ⟨by kernel_rfl, ?yp11⟩) (by assumption) ?rp11
            case yp11 => (intro w hSw; (try dsimp only at hSw); obtain ⟨s1, s2, s3⟩ := hSw; go_simp; (try with_reducible rfl))
            try simp only [Act.put, List.getElem_toArray, List.getElem_cons_zero, List.getElem_cons_succ, List.setIfInBounds_toArray, List.set_cons_zero, List.set_cons_succ]
            refine wpAnyH_ready (rs := [11]) (by kernel_rfl) (by simp) ?_
            refine AllReadyH.cons rfl (fun K hK => ?_) AllReadyH.nil
            go_simp
            (with_reducible refine KP.out.mono ?_)
            rintro e w4 ⟨rfl, h1, h2⟩
            have HBW : Hid (Below W.heap.size W w4) := by
              by_cases hE : putE cur o.key o.val = 0
              · exact HR.out.2.trans ((((Off.of (Below.refl _ _).drew).trans (h1 hE).1).below HR.out.2.size))
              · exact HR.out.2.trans (((Below.refl _ _).drew.trans (h2 hE)).mono HR.out.2.size)
            have HBR : Hid (Below W.heap.size wr w4) := by
              by_cases hE : putE cur o.key o.val = 0
              · exact ((Off.of (Below.refl _ _).drew).trans (h1 hE).1).below HR.out.2.size
              · exact (((Below.refl _ _).drew.trans (h2 hE)).mono HR.out.2.size)
            have HPJ : Hid ((putE cur o.key o.val = 0 → Chd W.heap.size J wr.drew (hs1 ++ [cur]) (putM cur o.key o.val) w4) ∧ (putE cur o.key o.val ≠ 0 → Below wr.drew.heap.size wr.drew w4)) := ⟨h1, h2⟩
            clear h1 h2
            go_wp2_with fail
            refine hK.out _ _ (HS.out _ HBR.out) (fun hHeld => ?_)
            clear hK K
            refine wpAnyH_take (i := 12) (v := ?vp12) rfl (by kernel_rfl) (by kernel_rfl) (by kernel_rfl) (fun _ _ _ h => h) (Or.inl ⟨by kernel_rfl, ?yp12⟩) (by assumption) ?rp12
            case yp12 => (intro w hSw; (try dsimp only at hSw); obtain ⟨s1, s2, s3⟩ := hSw; go_simp; (try with_reducible rfl))
            try simp only [Act.put, List.getElem_toArray, List.getElem_cons_zero, List.getElem_cons_succ, List.setIfInBounds_toArray, List.set_cons_zero, List.set_cons_succ]
            refine wpAnyH_done (by kernel_rfl) ?_ _
            by_cases hE : putE cur o.key o.val = 0
            · obtain ⟨o4, _, j4⟩ := HPJ.out.1 hE
              have HJ4 : Hid (Jr W.heap.size w4 J (hs1 ++ [cur]) (putM cur o.key o.val) ∧ Below W.heap.size W w4) := ⟨j4, HBW.out⟩
              have KM := Lib.hid (markC _ _ J _ _ j4)
              clear o4 j4 HPJ
              rw [hE]
              have hl : (hs1 ++ [cur]).length = hs1.length + 1 := by simp
              rw [hl] at KM
              generalize putM cur o.key o.val = nx at *
              go_wp2_with fail
              (with_reducible refine KM.out.mono ?_)
              rintro e w5 ⟨rfl, rfl⟩
              go_wp2
              go_roundw
              case rel => exact ⟨k + 1, hs1 ++ [cur], nx, by omega, by go_num, by rw [hl]; go_num, by rw [hl]; omega, HJ4.out⟩
              case measure => simp [intOf]; omega
            · have hE' : (putE cur o.key o.val == 0) = false := by simpa using hE
              have hb4 := HPJ.out.2 hE
              have HJ4 : Hid (Jr W.heap.size w4 J hs1 cur ∧ Below W.heap.size W w4) := ⟨(HR.out.1.on (Below.refl _ _).drew).on hb4, HBW.out⟩
              have KM := Lib.hid (markC _ _ J _ _ HJ4.out.1)
              clear hb4 HPJ
              generalize putE cur o.key o.val = E at *
              go_wp2_with fail
              (with_reducible refine KM.out.mono ?_)
              rintro e w5 ⟨rfl, rfl⟩
              go_wp2
              go_roundw
              case rel => exact ⟨k + 1, hs1, cur, by omega, by go_num, rfl, by omega, HJ4.out⟩
              case measure => simp [intOf]; omega
          | false =>
            go_wp2_with fail
            (with_reducible refine KD.out.mono ?_)
            rintro e w4 ⟨rfl, o4, _, j4⟩
            have HJ4 : Hid (Jr W.heap.size w4 J (hs1 ++ [cur]) (delM cur o.key) ∧ Below W.heap.size W w4) := ⟨j4, HR.out.2.trans (o4.below HR.out.2.size)⟩
            have KM := Lib.hid (markC _ _ J _ _ j4)
            have hl : (hs1 ++ [cur]).length = hs1.length + 1 := by simp
            rw [hl] at KM
            clear o4 j4
            go_wp2_with fail
            (with_reducible refine KM.out.mono ?_)
            rintro e w5 ⟨rfl, rfl⟩
            go_wp2
            go_roundw
            case rel => exact ⟨k + 1, hs1 ++ [cur], _, by omega, by go_num, by rw [hl]; go_num, by rw [hl]; omega, HJ4.out⟩
            case measure => simp [intOf]; omega
        · obtain rfl : k = ops.length := by omega
          by_cases hmn : mk ≤ hs1.length
          · obtain ⟨res, hres⟩ : ∃ res, (hs1 ++ [cur])[mk]? = some res := ⟨_, List.getElem?_eq_getElem (by simp; omega)⟩
            have KU := Lib.hid (undoC _ _ J _ _ HR.out.1 mk hmn res hres)
            have hlt2 : (hs1.take mk).length = mk := by rw [List.length_take]; omega
            go_wp2_with fail
            (with_reducible refine KU.out.mono ?_)
            rintro e w4 ⟨rfl, o4, _, j4⟩
            have KM := Lib.hid (markC _ _ J _ _ j4)
            rw [hlt2] at KM
            have HB := Lib.hid (HR.out.2.trans (o4.below HR.out.2.size))
            clear o4 j4 KU
            go_wp2_with fail
            (with_reducible refine KM.out.mono ?_)
            rintro e w5 ⟨rfl, rfl⟩
            go_wp2
            go_ret
            exact ⟨rfl, HB.out⟩
          · have KU := Lib.hid (undoBad _ _ J _ _ HR.out.1 (mk : Int) (.inr (by omega)))
            go_wp2_with fail
            (with_reducible refine KU.out.mono ?_)
            rintro e w4 ⟨rfl, b4⟩
            have KM := Lib.hid (markC _ _ J _ _ (HR.out.1.on b4))
            have HB := Lib.hid (HR.out.2.trans (b4.mono HR.out.2.size))
            clear b4 KU
            go_wp2_with fail
            (with_reducible refine KM.out.mono ?_)
            rintro e w5 ⟨rfl, rfl⟩
            go_wp2
            go_ret
            exact ⟨rfl, HB.out⟩
  · go_enter Try.func6, Try.ntmps6
    go_wp2_with fail
    (with_reducible refine K0.out.mono ?_)
    rintro e w1 ⟨rfl, hb1⟩
    have HB1 := Lib.hid hb1
    have K1 := Lib.hid (newC_nil A ls c w1 (HP.out.on hb1) hc hm' hl hr)
    clear hb1
    go_wp2_with fail
    (with_reducible refine K1.out.mono ?_)
    rintro e w2 ⟨rfl, hb2⟩
    have HB2 := Lib.hid (HB1.out.trans (hb2.mono HB1.out.size))
    clear hb2
    go_wp2
    go_ret
    exact ⟨rfl, HB2.out⟩
end Go.Proofs.Ytncbbjodianmoaa
