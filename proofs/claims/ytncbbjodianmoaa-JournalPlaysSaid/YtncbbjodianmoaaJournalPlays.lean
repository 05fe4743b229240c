/- PROVED HERE: JournalPlays answers true at every input, and leaves its arguments as they were. Conditions: none beyond what the statement itself says. -/
import Derived.Test.YtncbbjodianmoaaWc
import Derived.Test.YtncbbjodianmoaaDl
import Derived.Test.YtncbbjodianmoaaOpen
import Derived.Test.YtncbbjodianmoaaSo
import Derived.Test.YtncbbjodianmoaaVo
import Derived.Test.YtncbbjodianmoaaBase
import Derived.ChangeOld
import Derived.Below
import Derived.SizedLaws
namespace Go.Proofs.Ytncbbjodianmoaa
open Go.RowKit
set_option linter.unusedSimpArgs false
set_option linter.unusedVariables false

theorem info32s : (Try.prog.info? 32).map (·.size) = some 4 := by kernel_rfl
theorem range4 {w : World} {b o : Nat} {u v x y : Value} (h1 : w.cell? ⟨b, o, none⟩ = some u) (h2 : w.cell? ⟨b, o + 1, none⟩ = some v) (h3 : w.cell? ⟨b, o + 2, none⟩ = some x) (h4 : w.cell? ⟨b, o + 3, none⟩ = some y) : w.rangeAt b o [u, v, x, y] := by
  intro j z hz
  match j, hz with
  | 0, hz => simp at hz; subst hz; exact h1
  | 1, hz => simp at hz; subst hz; exact h2
  | 2, hz => simp at hz; subst hz; exact h3
  | 3, hz => simp at hz; subst hz; exact h4

set_option maxRecDepth 100000 in
set_option maxHeartbeats 6400000 in
theorem playsC (W : World) (A : Option Addr) (ls : List PR) (c : Nat) (hp : Prs W W.heap.size A c ls) (hc : ls.length ≤ c) (hm : c ≤ maxLen) (hl : ls.length ≤ 2932031007402) (Ao : Option Addr) (ops : List OpT) (co : Nat) (ho : OpsB W W.heap.size Ao ops) (hco : ops.length ≤ co) (hmo : co ≤ maxLen) :
    Calls Try.prog 3 #[.slice A ls.length c, .slice Ao ops.length co] W fun e w' => e = .returned (.bool true) ∧ Below W.heap.size W w' := by
  have HP := Lib.hid hp
  have HO := Lib.hid ho
  have K0 := Lib.hid (headC W)
  have hm' := hm
  clear hp ho
  unfold maxLen at hm hmo
  by_cases hr : RightM ls
  · by_cases hg : 300 < ops.length
    · go_enter Try.func3, Try.ntmps3
      go_wp2_with fail
      (with_reducible refine K0.out.mono ?_)
      rintro e w1 ⟨rfl, hb1⟩
      have HB1 := Lib.hid hb1
      have K1 := Lib.hid (newC A ls c w1 (HP.out.on hb1) hc hm' hl hr)
      clear hb1
      go_wp2_with fail
      (with_reducible refine K1.out.mono ?_)
      rintro e w2 h
      obtain ⟨J, rfl, hJ, hj, hb2⟩ := h.jr (n0 := W.heap.size) hr HB1.out.size
      have HB2 := Lib.hid (HB1.out.trans (hb2.mono HB1.out.size))
      have HJ := Lib.hid hj
      have K2 := Lib.hid (refNewC W.heap.size A ls c w2 (HP.out.on HB2.out) hc hm' hl hr HB2.out.size)
      clear h hj hb2
      go_wp2_with fail
      (with_reducible refine K2.out.mono ?_)
      rintro e w3 ⟨Jd, rfl, hJd, hd, hb3⟩
      have HB3 := Lib.hid (HB2.out.trans (hb3.mono HB2.out.size))
      have HJ3 := Lib.hid (HJ.out.on hb3)
      have HD3 := Lib.hid hd
      clear hd hb3
      go_wp2_with (go_at_call 11; refine (greatC _ _ _ _ hg).mono ?_; rintro e w4 ⟨rfl, rfl⟩)
      go_ret
      exact ⟨rfl, HB3.out⟩
    · have hs : ops.length ≤ 300 := by omega
      clear hg
      go_enter Try.func3, Try.ntmps3
      go_wp2_with fail
      (with_reducible refine K0.out.mono ?_)
      rintro e w1 ⟨rfl, hb1⟩
      have HB1 := Lib.hid hb1
      have K1 := Lib.hid (newC A ls c w1 (HP.out.on hb1) hc hm' hl hr)
      clear hb1
      go_wp2_with fail
      (with_reducible refine K1.out.mono ?_)
      rintro e w2 h
      obtain ⟨J, rfl, hJ, hj, hb2⟩ := h.jr (n0 := W.heap.size) hr HB1.out.size
      have HB2 := Lib.hid (HB1.out.trans (hb2.mono HB1.out.size))
      have HJ := Lib.hid hj
      have K2 := Lib.hid (refNewC W.heap.size A ls c w2 (HP.out.on HB2.out) hc hm' hl hr HB2.out.size)
      clear h hj hb2
      go_wp2_with fail
      (with_reducible refine K2.out.mono ?_)
      rintro e w3 ⟨Jd, rfl, hJd, hd, hb3⟩
      have HB3 := Lib.hid (HB2.out.trans (hb3.mono HB2.out.size))
      have HJ3 := Lib.hid (HJ.out.on hb3)
      have HD3 := Lib.hid hd
      clear hd hb3
      clear K0 K1 K2 hr HP HB1 hm hm' hl HJ HB2
      go_wp2_with (go_at_call 11; refine (smallC _ _ _ _ hs).mono ?_; rintro e w4 ⟨rfl, rfl⟩)
      go_loopw [8] (fun i wr => ∃ (k : Nat) (hs : List (List PR)) (cur : List PR), k ≤ ops.length ∧ i = .int .i64 k ∧ hs.length ≤ k ∧ Hid (Jr W.heap.size wr J hs cur ∧ Dr W.heap.size wr Jd hs cur ∧ Below W.heap.size W wr)) (fun i _ => ops.length - (intOf i).toNat)
      case atStart => exact ⟨0, [], ls, Nat.zero_le _, rfl, Nat.le_refl _, HJ3.out, HD3.out, HB3.out⟩
      case round =>
        clear HJ3 HD3 HB3
        obtain ⟨k, hs1, cur, hk, rfl, hle, HR⟩ := hrel
        by_cases hlt : k < ops.length
        · have hg : ops[k]? = some ops[k] := List.getElem?_eq_getElem hlt
          generalize ops[k] = o at hg
          obtain ⟨b, off, rfl, Ak, ck, Av, cv, hB, x1, x2, x3, x4, s1, s2, r1, r2⟩ := (HO.out.below HR.out.2.2) k o hg
          have HC := Lib.hid (range4 x1 x2 x3 x4)
          have hbx := below_alloc wr (.cells #[.int .i64 o.what, .slice Ak o.key.length ck, .slice Av o.val.length cv, .int .i64 o.n] 32)
          have HSB : Hid (∀ w', Below W.heap.size wr w' → SB w' w'.heap.size (.slice Ak o.key.length ck) o.key ∧ SB w' w'.heap.size (.slice Av o.val.length cv) o.val) := fun w' hb => ⟨(s1.below hb).more (Nat.le_trans HR.out.2.2.size hb.size), (s2.below hb).more (Nat.le_trans HR.out.2.2.size hb.size)⟩
          have HX : Hid (∀ w', Off W.heap.size (wr.alloc (.cells #[.int .i64 o.what, .slice Ak o.key.length ck, .slice Av o.val.length cv, .int .i64 o.n] 32)) w' → w'.cell? ⟨wr.heap.size, 0, none⟩ = some (.int .i64 o.what) ∧ w'.cell? ⟨wr.heap.size, 1, none⟩ = some (.slice Ak o.key.length ck) ∧ w'.cell? ⟨wr.heap.size, 2, none⟩ = some (.slice Av o.val.length cv) ∧ w'.cell? ⟨wr.heap.size, 3, none⟩ = some (.int .i64 o.n)) := fun w' ho' => by
            have h1 : (wr.alloc (.cells #[.int .i64 o.what, .slice Ak o.key.length ck, .slice Av o.val.length cv, .int .i64 o.n] 32)).heap[wr.heap.size]? = some (.cells #[.int .i64 o.what, .slice Ak o.key.length ck, .slice Av o.val.length cv, .int .i64 o.n] 32 (0, 0)) := heap_alloc_new wr _
            have h2 : w'.heap[wr.heap.size]? = some (.cells #[.int .i64 o.what, .slice Ak o.key.length ck, .slice Av o.val.length cv, .int .i64 o.n] 32 (0, 0)) := by
              rw [ho'.block _ (by simp) (fun hx => ?_) (.inr ⟨_, _, _, h1⟩)]
              · exact h1
              · obtain ⟨_, cs', T, z', g2, g3, _⟩ := hx
                rw [h1] at g2
                injection g2 with g2
                injection g2 with _ g2 _
                subst g2
                revert g3
                decide
            refine ⟨?_, ?_, ?_, ?_⟩ <;> simp [World.cell?, h2]
          have HBX : Hid (Below W.heap.size wr (wr.alloc (.cells #[.int .i64 o.what, .slice Ak o.key.length ck, .slice Av o.val.length cv, .int .i64 o.n] 32))) := hbx.mono HR.out.2.2.size
          have HRX : Hid (Jr W.heap.size (wr.alloc (.cells #[.int .i64 o.what, .slice Ak o.key.length ck, .slice Av o.val.length cv, .int .i64 o.n] 32)) J hs1 cur ∧ Dr W.heap.size (wr.alloc (.cells #[.int .i64 o.what, .slice Ak o.key.length ck, .slice Av o.val.length cv, .int .i64 o.n] 32)) Jd hs1 cur ∧ Below W.heap.size W (wr.alloc (.cells #[.int .i64 o.what, .slice Ak o.key.length ck, .slice Av o.val.length cv, .int .i64 o.n] 32))) := ⟨HR.out.1.on hbx, HR.out.2.1.on hbx, HR.out.2.2.trans HBX.out⟩
          have hl : (hs1 ++ [cur]).length = hs1.length + 1 := by simp
          clear x1 x2 x3 x4 s1 s2 hg hbx r1
          go_wp2_with (first | (refine wpList_load_mid rfl 32 (.tmp 46) rfl b (off + k * 4) rfl [.int .i64 o.what, .slice Ak o.key.length ck, .slice Av o.val.length cv, .int .i64 o.n] _ HC.out Try.underlying32 rfl info32s ?_; refine Hid.out ?_) | fail)
          refine Lib.hid ?_
          have HPX := Lib.hid (HX.out _ (Off.refl _ _))
          obtain ⟨y1, y2, y3, y4⟩ := HPX.out
          generalize hxx : bits BinOp.and IntKind.i64 o.what 3 = x at *
          by_cases hx0 : x = 0
          · subst hx0
            by_cases hE : putE cur o.key o.val = 0
            · skip
              go_wp2_with fail
              have HD := Lib.hid (Off.of (n0 := W.heap.size) (Below.refl (wr.alloc (.cells #[.int .i64 o.what, .slice Ak o.key.length ck, .slice Av o.val.length cv, .int .i64 o.n] 32)).heap.size (wr.alloc (.cells #[.int .i64 o.what, .slice Ak o.key.length ck, .slice Av o.val.length cv, .int .i64 o.n] 32))).drew)
              have HSd := Lib.hid (HSB.out _ HBX.out.drew)
              have KPj := Lib.hid (putJC W.heap.size _ J hs1 cur (HRX.out.1.on (Below.refl _ _).drew) (by omega) Ak o.key ck Av o.val cv HSd.out.1 HSd.out.2)
              unfold PutJ at KPj
              rw [hE] at KPj
              have HDR := Lib.hid (HRX.out.2.1.on (Below.refl _ _).drew)
              have HBD : Hid (Below W.heap.size wr (wr.alloc (.cells #[.int .i64 o.what, .slice Ak o.key.length ck, .slice Av o.val.length cv, .int .i64 o.n] 32)).drew) := HBX.out.drew
              have HJD := Lib.hid (HRX.out.1.on (Below.refl _ _).drew)
              refine wp_region_held_drew (S := (fun w' => w'.cell? ⟨wr.heap.size, 0, none⟩ = some (.int .i64 o.what) ∧ w'.cell? ⟨wr.heap.size, 1, none⟩ = some (.slice Ak o.key.length ck) ∧ w'.cell? ⟨wr.heap.size, 2, none⟩ = some (.slice Av o.val.length cv) ∧ w'.cell? ⟨wr.heap.size, 3, none⟩ = some (.int .i64 o.n))) (by kernel_rfl) (HX.out _ (.of (Below.refl _ _).drew)) (fun hHeld => ?_)
              generalize hwd : (wr.alloc (.cells #[.int .i64 o.what, .slice Ak o.key.length ck, .slice Av o.val.length cv, .int .i64 o.n] 32)).drew = wd at *
              refine wpAnyH_take (i := 0) (v := ?vpy1) rfl (by kernel_rfl) (by kernel_rfl) (by kernel_rfl) (fun _ _ _ h => h) (Or.inl ⟨by kernel_rfl, ?ypy1⟩) (by assumption) ?rpy1
              case ypy1 => (intro w hSw; (try dsimp only at hSw); obtain ⟨s1, s2, s3, s4⟩ := hSw; go_simp; (try with_reducible rfl))
              try simp only [Act.put, List.getElem_toArray, List.getElem_cons_zero, List.getElem_cons_succ, List.setIfInBounds_toArray, List.set_cons_zero, List.set_cons_succ]
              refine wpAnyH_take (i := 1) (v := ?vpy2) rfl (by kernel_rfl) (by kernel_rfl) (by kernel_rfl) (fun _ _ _ h => h) (Or.inl ⟨by kernel_rfl, ?ypy2⟩) (by assumption) ?rpy2
              case ypy2 => (intro w hSw; (try dsimp only at hSw); obtain ⟨s1, s2, s3, s4⟩ := hSw; go_simp; (try with_reducible rfl))
              try simp only [Act.put, List.getElem_toArray, List.getElem_cons_zero, List.getElem_cons_succ, List.setIfInBounds_toArray, List.set_cons_zero, List.set_cons_succ]
              refine wpAnyH_take (i := 2) (v := ?vpy3) rfl (by kernel_rfl) (by kernel_rfl) (by kernel_rfl) (fun _ _ _ h => h) (Or.inl ⟨by kernel_rfl, ?ypy3⟩) (by assumption) ?rpy3
              case ypy3 => (intro w hSw; (try dsimp only at hSw); obtain ⟨s1, s2, s3, s4⟩ := hSw; go_simp; (try with_reducible rfl))
              try simp only [Act.put, List.getElem_toArray, List.getElem_cons_zero, List.getElem_cons_succ, List.setIfInBounds_toArray, List.set_cons_zero, List.set_cons_succ]
              refine wpAnyH_take (i := 3) (v := ?vpy4) rfl (by kernel_rfl) (by kernel_rfl) (by kernel_rfl) (fun _ _ _ h => h) (Or.inl ⟨by kernel_rfl, ?ypy4⟩) (by assumption) ?rpy4
              case ypy4 => (intro w hSw; (try dsimp only at hSw); obtain ⟨s1, s2, s3, s4⟩ := hSw; go_simp; (try with_reducible rfl))
              try simp only [Act.put, List.getElem_toArray, List.getElem_cons_zero, List.getElem_cons_succ, List.setIfInBounds_toArray, List.set_cons_zero, List.set_cons_succ]
              refine wpAnyH_take (i := 4) (v := ?vpy5) rfl (by kernel_rfl) (by kernel_rfl) (by kernel_rfl) (fun _ _ _ h => h) (Or.inl ⟨by kernel_rfl, ?ypy5⟩) (by assumption) ?rpy5
              case ypy5 => (intro w hSw; (try dsimp only at hSw); obtain ⟨s1, s2, s3, s4⟩ := hSw; go_simp; (try with_reducible rfl))
              try simp only [Act.put, List.getElem_toArray, List.getElem_cons_zero, List.getElem_cons_succ, List.setIfInBounds_toArray, List.set_cons_zero, List.set_cons_succ]
              refine wpAnyH_take (i := 6) (v := ?vpy6) rfl (by kernel_rfl) (by kernel_rfl) (by kernel_rfl) (fun _ _ _ h => h) (Or.inl ⟨by kernel_rfl, ?ypy6⟩) (by assumption) ?rpy6
              case ypy6 => (intro w hSw; (try dsimp only at hSw); obtain ⟨s1, s2, s3, s4⟩ := hSw; go_simp; (try with_reducible rfl))
              try simp only [Act.put, List.getElem_toArray, List.getElem_cons_zero, List.getElem_cons_succ, List.setIfInBounds_toArray, List.set_cons_zero, List.set_cons_succ]
              refine wpAnyH_take (i := 7) (v := ?vpy7) rfl (by kernel_rfl) (by kernel_rfl) (by kernel_rfl) (fun _ _ _ h => h) (Or.inl ⟨by kernel_rfl, ?ypy7⟩) (by assumption) ?rpy7
              case ypy7 => (intro w hSw; (try dsimp only at hSw); obtain ⟨s1, s2, s3, s4⟩ := hSw; go_simp; (try with_reducible rfl))
              try simp only [Act.put, List.getElem_toArray, List.getElem_cons_zero, List.getElem_cons_succ, List.setIfInBounds_toArray, List.set_cons_zero, List.set_cons_succ]
              refine wpAnyH_take (i := 8) (v := ?vpy8) rfl (by kernel_rfl) (by kernel_rfl) (by kernel_rfl) (fun _ _ _ h => h) (Or.inl ⟨by kernel_rfl, ?ypy8⟩) (by assumption) ?rpy8
              case ypy8 => (intro w hSw; (try dsimp only at hSw); obtain ⟨s1, s2, s3, s4⟩ := hSw; go_simp; (try with_reducible rfl))
              try simp only [Act.put, List.getElem_toArray, List.getElem_cons_zero, List.getElem_cons_succ, List.setIfInBounds_toArray, List.set_cons_zero, List.set_cons_succ]
              refine wpAnyH_take (i := 9) (v := ?vpy9) rfl (by kernel_rfl) (by kernel_rfl) (by kernel_rfl) (fun _ _ _ h => h) (Or.inl ⟨by kernel_rfl, ?ypy9⟩) (by assumption) ?rpy9
              case ypy9 => (intro w hSw; (try dsimp only at hSw); obtain ⟨s1, s2, s3, s4⟩ := hSw; go_simp; (try with_reducible rfl))
              try simp only [Act.put, List.getElem_toArray, List.getElem_cons_zero, List.getElem_cons_succ, List.setIfInBounds_toArray, List.set_cons_zero, List.set_cons_succ]
              refine wpAnyH_take (i := 10) (v := ?vpy10) rfl (by kernel_rfl) (by kernel_rfl) (by kernel_rfl) (fun _ _ _ h => h) (Or.inl ⟨by kernel_rfl, ?ypy10⟩) (by assumption) ?rpy10
              case ypy10 => (intro w hSw; (try dsimp only at hSw); obtain ⟨s1, s2, s3, s4⟩ := hSw; go_simp; (try with_reducible rfl))
              try simp only [Act.put, List.getElem_toArray, List.getElem_cons_zero, List.getElem_cons_succ, List.setIfInBounds_toArray, List.set_cons_zero, List.set_cons_succ]
              refine wpAnyH_ready (rs := [5]) (by kernel_rfl) (by simp) ?_
              refine AllReadyH.cons rfl (fun K hK => ?_) AllReadyH.nil
              go_simp
              (with_reducible refine KPj.out.mono ?_)
              rintro e w4 ⟨rfl, h1, h2⟩
              obtain hch := h1 (by first | rfl | trivial)
              have H4 : Hid (Jr W.heap.size w4 J (hs1 ++ [cur]) (putM cur o.key o.val) ∧ Dr W.heap.size w4 Jd hs1 cur ∧ Off W.heap.size wd w4) := ⟨hch.2.2, HDR.out.beside HJD.out hch, hch.1⟩
              clear h1 h2 hch
              have HB4 : Hid (Below W.heap.size wr w4) := HBD.out.trans (H4.out.2.2.below (Nat.le_trans HR.out.2.2.size HBD.out.size))
              have HS4 := Lib.hid (HSB.out w4 HB4.out)
              have HX4 := Lib.hid (HX.out w4 (HD.out.trans H4.out.2.2))
              have KPd := Lib.hid (refPutJC W.heap.size w4 Jd hs1 cur H4.out.2.1 (by omega) Ak o.key ck Av o.val cv HS4.out.1 HS4.out.2)
              unfold PutD at KPd
              rw [hE] at KPd
              go_wp2_with fail
              refine hK.out _ _ HX4.out (fun hHeld => ?_)
              clear hK K
              refine wpAnyH_ready (rs := [11]) (by kernel_rfl) (by simp) ?_
              refine AllReadyH.cons rfl (fun K hK => ?_) AllReadyH.nil
              go_simp
              (with_reducible refine KPd.out.mono ?_)
              rintro e wz ⟨rfl, h1, h2⟩
              obtain hdh := h1 (by first | rfl | trivial)
              have HT0 : Hid ((Jr W.heap.size wz J (hs1 ++ [cur]) (putM cur o.key o.val) ∧ Dr W.heap.size wz Jd (hs1 ++ [cur]) (putM cur o.key o.val) ∧ Below W.heap.size W wz) ∧ Off W.heap.size w4 wz) := ⟨⟨H4.out.1.beside H4.out.2.1 hdh, hdh.2.2, (HR.out.2.2.trans HB4.out).trans (hdh.1.below (Nat.le_trans HR.out.2.2.size HB4.out.size))⟩, hdh.1⟩
              clear h1 h2 hdh
              have HT : Hid (Jr W.heap.size wz J (hs1 ++ [cur]) (putM cur o.key o.val) ∧ Dr W.heap.size wz Jd (hs1 ++ [cur]) (putM cur o.key o.val) ∧ Below W.heap.size W wz) := HT0.out.1
              have HXz := Lib.hid (HX.out wz ((HD.out.trans H4.out.2.2).trans HT0.out.2))
              go_wp2_with fail
              refine hK.out _ _ HXz.out (fun hHeld => ?_)
              clear hK K HX4 KPd KPj HSd HS4 HB4 H4 HDR HJD HBD HD HT0
              refine wpAnyH_take (i := 12) (v := ?vpy11) rfl (by kernel_rfl) (by kernel_rfl) (by kernel_rfl) (fun _ _ _ h => h) (Or.inl ⟨by kernel_rfl, ?ypy11⟩) (by assumption) ?rpy11
              case ypy11 => (intro w hSw; (try dsimp only at hSw); obtain ⟨s1, s2, s3, s4⟩ := hSw; go_simp; (try with_reducible rfl))
              try simp only [Act.put, List.getElem_toArray, List.getElem_cons_zero, List.getElem_cons_succ, List.setIfInBounds_toArray, List.set_cons_zero, List.set_cons_succ]
              refine wpAnyH_take (i := 13) (v := ?vpy12) rfl (by kernel_rfl) (by kernel_rfl) (by kernel_rfl) (fun _ _ _ h => h) (Or.inl ⟨by kernel_rfl, ?ypy12⟩) (by assumption) ?rpy12
              case ypy12 => (intro w hSw; (try dsimp only at hSw); obtain ⟨s1, s2, s3, s4⟩ := hSw; go_simp; (try with_reducible rfl))
              try simp only [Act.put, List.getElem_toArray, List.getElem_cons_zero, List.getElem_cons_succ, List.setIfInBounds_toArray, List.set_cons_zero, List.set_cons_succ]
              refine wpAnyH_done (by kernel_rfl) ?_ _
              clear hHeld HXz HX hwd HSB HRX HBX y1 y2 y3 y4 HC
              have KM1 := Lib.hid (markC _ _ J _ _ HT.out.1)
              have KM2 := Lib.hid (refMarkC _ _ Jd _ _ HT.out.2.1)
              have KP1 := Lib.hid (pairsC _ _ J _ _ HT.out.1)
              rw [hl] at KM1 KM2
              generalize (putM cur o.key o.val) = nx at *
              go_wp2_with (first | (go_at_call 20; (with_reducible refine KM1.out.mono ?_); rintro e w5 ⟨rfl, rfl⟩) | (go_at_call 21; (with_reducible refine KM2.out.mono ?_); rintro e w5 ⟨rfl, rfl⟩) | fail)
              (with_reducible refine KP1.out.mono ?_)
              rintro e w6 h6
              obtain ⟨A6, c6, rfl, g1, g2, g3, g4, g5⟩ := h6.f
              have H6 : Hid (nx.length ≤ c6 ∧ c6 ≤ maxLen ∧ Prs w6 w6.heap.size A6 c6 nx ∧ Jr W.heap.size w6 J (hs1 ++ [cur]) nx ∧ Dr W.heap.size w6 Jd (hs1 ++ [cur]) nx ∧ Below W.heap.size W w6) := ⟨g1, g2, g3.here, HT.out.1.on g5, HT.out.2.1.on g5, HT.out.2.2.trans (g5.mono HT.out.2.2.size)⟩
              have KP2 := Lib.hid (refPairsC _ _ Jd _ _ H6.out.2.2.2.2.1)
              clear h6 g1 g2 g3 g4 g5 KM1 KM2 KP1 HT
              go_wp2_with fail
              (with_reducible refine KP2.out.mono ?_)
              rintro e w7 ⟨A7, c7, rfl, k1, k2, k3, k4⟩
              have KS : Hid (Calls Try.prog 22 #[.slice A6 nx.length c6, .slice A7 nx.length c7] w7 fun e w' => e = .returned (.bool true) ∧ Below w7.heap.size w7 w') := by have := sameC A6 nx c6 A7 nx c7 w7 (H6.out.2.2.1.on k4) H6.out.1 H6.out.2.1 k3.1; rw [decide_eq_true rfl] at this; exact this
              have H7 : Hid (Jr W.heap.size w7 J (hs1 ++ [cur]) nx ∧ Dr W.heap.size w7 Jd (hs1 ++ [cur]) nx ∧ Below W.heap.size W w7) := ⟨H6.out.2.2.2.1.on k4, H6.out.2.2.2.2.1.on k4, H6.out.2.2.2.2.2.trans (k4.mono H6.out.2.2.2.2.2.size)⟩
              clear k1 k2 k3 k4 KP2 H6
              go_wp2_with fail
              (with_reducible refine KS.out.mono ?_)
              rintro e w8 ⟨rfl, hb8⟩
              have H8 : Hid (Jr W.heap.size w8 J (hs1 ++ [cur]) nx ∧ Dr W.heap.size w8 Jd (hs1 ++ [cur]) nx ∧ Below W.heap.size W w8) := ⟨H7.out.1.on hb8, H7.out.2.1.on hb8, H7.out.2.2.trans (hb8.mono H7.out.2.2.size)⟩
              clear hb8 KS H7
              go_wp2
              go_roundw
              case rel => exact ⟨k + 1, (hs1 ++ [cur]), nx, by omega, by go_num, by rw [hl]; omega, H8.out⟩
              case measure => simp [intOf]; omega
            · skip
              go_wp2_with fail
              have HD := Lib.hid (Off.of (n0 := W.heap.size) (Below.refl (wr.alloc (.cells #[.int .i64 o.what, .slice Ak o.key.length ck, .slice Av o.val.length cv, .int .i64 o.n] 32)).heap.size (wr.alloc (.cells #[.int .i64 o.what, .slice Ak o.key.length ck, .slice Av o.val.length cv, .int .i64 o.n] 32))).drew)
              have HSd := Lib.hid (HSB.out _ HBX.out.drew)
              have KPj := Lib.hid (putJC W.heap.size _ J hs1 cur (HRX.out.1.on (Below.refl _ _).drew) (by omega) Ak o.key ck Av o.val cv HSd.out.1 HSd.out.2)
              unfold PutJ at KPj
              have HDR := Lib.hid (HRX.out.2.1.on (Below.refl _ _).drew)
              have HBD : Hid (Below W.heap.size wr (wr.alloc (.cells #[.int .i64 o.what, .slice Ak o.key.length ck, .slice Av o.val.length cv, .int .i64 o.n] 32)).drew) := HBX.out.drew
              have HJD := Lib.hid (HRX.out.1.on (Below.refl _ _).drew)
              refine wp_region_held_drew (S := (fun w' => w'.cell? ⟨wr.heap.size, 0, none⟩ = some (.int .i64 o.what) ∧ w'.cell? ⟨wr.heap.size, 1, none⟩ = some (.slice Ak o.key.length ck) ∧ w'.cell? ⟨wr.heap.size, 2, none⟩ = some (.slice Av o.val.length cv) ∧ w'.cell? ⟨wr.heap.size, 3, none⟩ = some (.int .i64 o.n))) (by kernel_rfl) (HX.out _ (.of (Below.refl _ _).drew)) (fun hHeld => ?_)
              generalize hwd : (wr.alloc (.cells #[.int .i64 o.what, .slice Ak o.key.length ck, .slice Av o.val.length cv, .int .i64 o.n] 32)).drew = wd at *
              refine wpAnyH_take (i := 0) (v := ?vpn1) rfl (by kernel_rfl) (by kernel_rfl) (by kernel_rfl) (fun _ _ _ h => h) (Or.inl ⟨by kernel_rfl, ?ypn1⟩) (by assumption) ?rpn1
              case ypn1 => (intro w hSw; (try dsimp only at hSw); obtain ⟨s1, s2, s3, s4⟩ := hSw; go_simp; (try with_reducible rfl))
              try simp only [Act.put, List.getElem_toArray, List.getElem_cons_zero, List.getElem_cons_succ, List.setIfInBounds_toArray, List.set_cons_zero, List.set_cons_succ]
              refine wpAnyH_take (i := 1) (v := ?vpn2) rfl (by kernel_rfl) (by kernel_rfl) (by kernel_rfl) (fun _ _ _ h => h) (Or.inl ⟨by kernel_rfl, ?ypn2⟩) (by assumption) ?rpn2
              case ypn2 => (intro w hSw; (try dsimp only at hSw); obtain ⟨s1, s2, s3, s4⟩ := hSw; go_simp; (try with_reducible rfl))
              try simp only [Act.put, List.getElem_toArray, List.getElem_cons_zero, List.getElem_cons_succ, List.setIfInBounds_toArray, List.set_cons_zero, List.set_cons_succ]
              refine wpAnyH_take (i := 2) (v := ?vpn3) rfl (by kernel_rfl) (by kernel_rfl) (by kernel_rfl) (fun _ _ _ h => h) (Or.inl ⟨by kernel_rfl, ?ypn3⟩) (by assumption) ?rpn3
              case ypn3 => (intro w hSw; (try dsimp only at hSw); obtain ⟨s1, s2, s3, s4⟩ := hSw; go_simp; (try with_reducible rfl))
              try simp only [Act.put, List.getElem_toArray, List.getElem_cons_zero, List.getElem_cons_succ, List.setIfInBounds_toArray, List.set_cons_zero, List.set_cons_succ]
              refine wpAnyH_take (i := 3) (v := ?vpn4) rfl (by kernel_rfl) (by kernel_rfl) (by kernel_rfl) (fun _ _ _ h => h) (Or.inl ⟨by kernel_rfl, ?ypn4⟩) (by assumption) ?rpn4
              case ypn4 => (intro w hSw; (try dsimp only at hSw); obtain ⟨s1, s2, s3, s4⟩ := hSw; go_simp; (try with_reducible rfl))
              try simp only [Act.put, List.getElem_toArray, List.getElem_cons_zero, List.getElem_cons_succ, List.setIfInBounds_toArray, List.set_cons_zero, List.set_cons_succ]
              refine wpAnyH_take (i := 4) (v := ?vpn5) rfl (by kernel_rfl) (by kernel_rfl) (by kernel_rfl) (fun _ _ _ h => h) (Or.inl ⟨by kernel_rfl, ?ypn5⟩) (by assumption) ?rpn5
              case ypn5 => (intro w hSw; (try dsimp only at hSw); obtain ⟨s1, s2, s3, s4⟩ := hSw; go_simp; (try with_reducible rfl))
              try simp only [Act.put, List.getElem_toArray, List.getElem_cons_zero, List.getElem_cons_succ, List.setIfInBounds_toArray, List.set_cons_zero, List.set_cons_succ]
              refine wpAnyH_take (i := 6) (v := ?vpn6) rfl (by kernel_rfl) (by kernel_rfl) (by kernel_rfl) (fun _ _ _ h => h) (Or.inl ⟨by kernel_rfl, ?ypn6⟩) (by assumption) ?rpn6
              case ypn6 => (intro w hSw; (try dsimp only at hSw); obtain ⟨s1, s2, s3, s4⟩ := hSw; go_simp; (try with_reducible rfl))
              try simp only [Act.put, List.getElem_toArray, List.getElem_cons_zero, List.getElem_cons_succ, List.setIfInBounds_toArray, List.set_cons_zero, List.set_cons_succ]
              refine wpAnyH_take (i := 7) (v := ?vpn7) rfl (by kernel_rfl) (by kernel_rfl) (by kernel_rfl) (fun _ _ _ h => h) (Or.inl ⟨by kernel_rfl, ?ypn7⟩) (by assumption) ?rpn7
              case ypn7 => (intro w hSw; (try dsimp only at hSw); obtain ⟨s1, s2, s3, s4⟩ := hSw; go_simp; (try with_reducible rfl))
              try simp only [Act.put, List.getElem_toArray, List.getElem_cons_zero, List.getElem_cons_succ, List.setIfInBounds_toArray, List.set_cons_zero, List.set_cons_succ]
              refine wpAnyH_take (i := 8) (v := ?vpn8) rfl (by kernel_rfl) (by kernel_rfl) (by kernel_rfl) (fun _ _ _ h => h) (Or.inl ⟨by kernel_rfl, ?ypn8⟩) (by assumption) ?rpn8
              case ypn8 => (intro w hSw; (try dsimp only at hSw); obtain ⟨s1, s2, s3, s4⟩ := hSw; go_simp; (try with_reducible rfl))
              try simp only [Act.put, List.getElem_toArray, List.getElem_cons_zero, List.getElem_cons_succ, List.setIfInBounds_toArray, List.set_cons_zero, List.set_cons_succ]
              refine wpAnyH_take (i := 9) (v := ?vpn9) rfl (by kernel_rfl) (by kernel_rfl) (by kernel_rfl) (fun _ _ _ h => h) (Or.inl ⟨by kernel_rfl, ?ypn9⟩) (by assumption) ?rpn9
              case ypn9 => (intro w hSw; (try dsimp only at hSw); obtain ⟨s1, s2, s3, s4⟩ := hSw; go_simp; (try with_reducible rfl))
              try simp only [Act.put, List.getElem_toArray, List.getElem_cons_zero, List.getElem_cons_succ, List.setIfInBounds_toArray, List.set_cons_zero, List.set_cons_succ]
              refine wpAnyH_take (i := 10) (v := ?vpn10) rfl (by kernel_rfl) (by kernel_rfl) (by kernel_rfl) (fun _ _ _ h => h) (Or.inl ⟨by kernel_rfl, ?ypn10⟩) (by assumption) ?rpn10
              case ypn10 => (intro w hSw; (try dsimp only at hSw); obtain ⟨s1, s2, s3, s4⟩ := hSw; go_simp; (try with_reducible rfl))
              try simp only [Act.put, List.getElem_toArray, List.getElem_cons_zero, List.getElem_cons_succ, List.setIfInBounds_toArray, List.set_cons_zero, List.set_cons_succ]
              refine wpAnyH_ready (rs := [5]) (by kernel_rfl) (by simp) ?_
              refine AllReadyH.cons rfl (fun K hK => ?_) AllReadyH.nil
              go_simp
              (with_reducible refine KPj.out.mono ?_)
              rintro e w4 ⟨rfl, h1, h2⟩
              have hb4 := h2 hE
              have H4 : Hid (Jr W.heap.size w4 J hs1 cur ∧ Dr W.heap.size w4 Jd hs1 cur ∧ Off W.heap.size wd w4) := ⟨HJD.out.on hb4, HDR.out.on hb4, .of hb4⟩
              clear h1 h2 hb4
              have HB4 : Hid (Below W.heap.size wr w4) := HBD.out.trans (H4.out.2.2.below (Nat.le_trans HR.out.2.2.size HBD.out.size))
              have HS4 := Lib.hid (HSB.out w4 HB4.out)
              have HX4 := Lib.hid (HX.out w4 (HD.out.trans H4.out.2.2))
              have KPd := Lib.hid (refPutJC W.heap.size w4 Jd hs1 cur H4.out.2.1 (by omega) Ak o.key ck Av o.val cv HS4.out.1 HS4.out.2)
              unfold PutD at KPd
              go_wp2_with fail
              refine hK.out _ _ HX4.out (fun hHeld => ?_)
              clear hK K
              refine wpAnyH_ready (rs := [11]) (by kernel_rfl) (by simp) ?_
              refine AllReadyH.cons rfl (fun K hK => ?_) AllReadyH.nil
              go_simp
              (with_reducible refine KPd.out.mono ?_)
              rintro e wz ⟨rfl, h1, h2⟩
              have hb5 := h2 hE
              have HT0 : Hid ((Jr W.heap.size wz J hs1 cur ∧ Dr W.heap.size wz Jd hs1 cur ∧ Below W.heap.size W wz) ∧ Off W.heap.size w4 wz) := ⟨⟨H4.out.1.on hb5, H4.out.2.1.on hb5, (HR.out.2.2.trans HB4.out).trans (hb5.mono (Nat.le_trans HR.out.2.2.size HB4.out.size))⟩, .of hb5⟩
              clear h1 h2 hb5
              have HT : Hid (Jr W.heap.size wz J hs1 cur ∧ Dr W.heap.size wz Jd hs1 cur ∧ Below W.heap.size W wz) := HT0.out.1
              have HXz := Lib.hid (HX.out wz ((HD.out.trans H4.out.2.2).trans HT0.out.2))
              generalize putE cur o.key o.val = E at *
              go_wp2_with fail
              refine hK.out _ _ HXz.out (fun hHeld => ?_)
              clear hK K HX4 KPd KPj HSd HS4 HB4 H4 HDR HJD HBD HD HT0
              refine wpAnyH_take (i := 12) (v := ?vpn11) rfl (by kernel_rfl) (by kernel_rfl) (by kernel_rfl) (fun _ _ _ h => h) (Or.inl ⟨by kernel_rfl, ?ypn11⟩) (by assumption) ?rpn11
              case ypn11 => (intro w hSw; (try dsimp only at hSw); obtain ⟨s1, s2, s3, s4⟩ := hSw; go_simp; (try with_reducible rfl))
              try simp only [Act.put, List.getElem_toArray, List.getElem_cons_zero, List.getElem_cons_succ, List.setIfInBounds_toArray, List.set_cons_zero, List.set_cons_succ]
              refine wpAnyH_take (i := 13) (v := ?vpn12) rfl (by kernel_rfl) (by kernel_rfl) (by kernel_rfl) (fun _ _ _ h => h) (Or.inl ⟨by kernel_rfl, ?ypn12⟩) (by assumption) ?rpn12
              case ypn12 => (intro w hSw; (try dsimp only at hSw); obtain ⟨s1, s2, s3, s4⟩ := hSw; go_simp; (try with_reducible rfl))
              try simp only [Act.put, List.getElem_toArray, List.getElem_cons_zero, List.getElem_cons_succ, List.setIfInBounds_toArray, List.set_cons_zero, List.set_cons_succ]
              refine wpAnyH_done (by kernel_rfl) ?_ _
              clear hHeld HXz HX hwd HSB HRX HBX y1 y2 y3 y4 HC
              have KM1 := Lib.hid (markC _ _ J _ _ HT.out.1)
              have KM2 := Lib.hid (refMarkC _ _ Jd _ _ HT.out.2.1)
              have KP1 := Lib.hid (pairsC _ _ J _ _ HT.out.1)
              go_wp2_with (first | (go_at_call 20; (with_reducible refine KM1.out.mono ?_); rintro e w5 ⟨rfl, rfl⟩) | (go_at_call 21; (with_reducible refine KM2.out.mono ?_); rintro e w5 ⟨rfl, rfl⟩) | fail)
              (with_reducible refine KP1.out.mono ?_)
              rintro e w6 h6
              obtain ⟨A6, c6, rfl, g1, g2, g3, g4, g5⟩ := h6.f
              have H6 : Hid (cur.length ≤ c6 ∧ c6 ≤ maxLen ∧ Prs w6 w6.heap.size A6 c6 cur ∧ Jr W.heap.size w6 J hs1 cur ∧ Dr W.heap.size w6 Jd hs1 cur ∧ Below W.heap.size W w6) := ⟨g1, g2, g3.here, HT.out.1.on g5, HT.out.2.1.on g5, HT.out.2.2.trans (g5.mono HT.out.2.2.size)⟩
              have KP2 := Lib.hid (refPairsC _ _ Jd _ _ H6.out.2.2.2.2.1)
              clear h6 g1 g2 g3 g4 g5 KM1 KM2 KP1 HT
              go_wp2_with fail
              (with_reducible refine KP2.out.mono ?_)
              rintro e w7 ⟨A7, c7, rfl, k1, k2, k3, k4⟩
              have KS : Hid (Calls Try.prog 22 #[.slice A6 cur.length c6, .slice A7 cur.length c7] w7 fun e w' => e = .returned (.bool true) ∧ Below w7.heap.size w7 w') := by have := sameC A6 cur c6 A7 cur c7 w7 (H6.out.2.2.1.on k4) H6.out.1 H6.out.2.1 k3.1; rw [decide_eq_true rfl] at this; exact this
              have H7 : Hid (Jr W.heap.size w7 J hs1 cur ∧ Dr W.heap.size w7 Jd hs1 cur ∧ Below W.heap.size W w7) := ⟨H6.out.2.2.2.1.on k4, H6.out.2.2.2.2.1.on k4, H6.out.2.2.2.2.2.trans (k4.mono H6.out.2.2.2.2.2.size)⟩
              clear k1 k2 k3 k4 KP2 H6
              go_wp2_with fail
              (with_reducible refine KS.out.mono ?_)
              rintro e w8 ⟨rfl, hb8⟩
              have H8 : Hid (Jr W.heap.size w8 J hs1 cur ∧ Dr W.heap.size w8 Jd hs1 cur ∧ Below W.heap.size W w8) := ⟨H7.out.1.on hb8, H7.out.2.1.on hb8, H7.out.2.2.trans (hb8.mono H7.out.2.2.size)⟩
              clear hb8 KS H7
              go_wp2
              go_roundw
              case rel => exact ⟨k + 1, hs1, cur, by omega, by go_num, by omega, H8.out⟩
              case measure => simp [intOf]; omega
          · by_cases hx1 : x = 1
            · subst hx1
              have KJ := Lib.hid (delJC W.heap.size _ J hs1 cur HRX.out.1 (by omega) Ak o.key ck (HSB.out _ HBX.out).1)
              go_wp2_with fail
              (with_reducible refine KJ.out.mono ?_)
              rintro e w4 ⟨rfl, hch⟩
              have H4 : Hid (Jr W.heap.size w4 J (hs1 ++ [cur]) (delM cur o.key) ∧ Dr W.heap.size w4 Jd hs1 cur ∧ Below W.heap.size wr w4) := ⟨hch.2.2, HRX.out.2.1.beside HRX.out.1 hch, HBX.out.trans (hch.1.below (Nat.le_trans HR.out.2.2.size HBX.out.size))⟩
              obtain ⟨z1, z2, z3, z4⟩ := HX.out w4 hch.1
              have KD := Lib.hid (refDelJC W.heap.size w4 Jd hs1 cur H4.out.2.1 (by omega) Ak o.key ck (HSB.out w4 H4.out.2.2).1)
              clear hch KJ
              go_wp2_with fail
              (with_reducible refine KD.out.mono ?_)
              rintro e wz ⟨rfl, hdh⟩
              have HT : Hid (Jr W.heap.size wz J (hs1 ++ [cur]) (delM cur o.key) ∧ Dr W.heap.size wz Jd (hs1 ++ [cur]) (delM cur o.key) ∧ Below W.heap.size W wz) := ⟨H4.out.1.beside H4.out.2.1 hdh, hdh.2.2, (HR.out.2.2.trans H4.out.2.2).trans (hdh.1.below (Nat.le_trans HR.out.2.2.size H4.out.2.2.size))⟩
              clear hdh KD H4 HX HSB HRX HBX y1 y2 y3 y4 z1 z2 z3 z4 HC HPX
              have KM1 := Lib.hid (markC _ _ J _ _ HT.out.1)
              have KM2 := Lib.hid (refMarkC _ _ Jd _ _ HT.out.2.1)
              have KP1 := Lib.hid (pairsC _ _ J _ _ HT.out.1)
              rw [hl] at KM1 KM2
              generalize (delM cur o.key) = nx at *
              go_wp2_with (first | (go_at_call 20; (with_reducible refine KM1.out.mono ?_); rintro e w5 ⟨rfl, rfl⟩) | (go_at_call 21; (with_reducible refine KM2.out.mono ?_); rintro e w5 ⟨rfl, rfl⟩) | fail)
              (with_reducible refine KP1.out.mono ?_)
              rintro e w6 h6
              obtain ⟨A6, c6, rfl, g1, g2, g3, g4, g5⟩ := h6.f
              have H6 : Hid (nx.length ≤ c6 ∧ c6 ≤ maxLen ∧ Prs w6 w6.heap.size A6 c6 nx ∧ Jr W.heap.size w6 J (hs1 ++ [cur]) nx ∧ Dr W.heap.size w6 Jd (hs1 ++ [cur]) nx ∧ Below W.heap.size W w6) := ⟨g1, g2, g3.here, HT.out.1.on g5, HT.out.2.1.on g5, HT.out.2.2.trans (g5.mono HT.out.2.2.size)⟩
              have KP2 := Lib.hid (refPairsC _ _ Jd _ _ H6.out.2.2.2.2.1)
              clear h6 g1 g2 g3 g4 g5 KM1 KM2 KP1 HT
              go_wp2_with fail
              (with_reducible refine KP2.out.mono ?_)
              rintro e w7 ⟨A7, c7, rfl, k1, k2, k3, k4⟩
              have KS : Hid (Calls Try.prog 22 #[.slice A6 nx.length c6, .slice A7 nx.length c7] w7 fun e w' => e = .returned (.bool true) ∧ Below w7.heap.size w7 w') := by have := sameC A6 nx c6 A7 nx c7 w7 (H6.out.2.2.1.on k4) H6.out.1 H6.out.2.1 k3.1; rw [decide_eq_true rfl] at this; exact this
              have H7 : Hid (Jr W.heap.size w7 J (hs1 ++ [cur]) nx ∧ Dr W.heap.size w7 Jd (hs1 ++ [cur]) nx ∧ Below W.heap.size W w7) := ⟨H6.out.2.2.2.1.on k4, H6.out.2.2.2.2.1.on k4, H6.out.2.2.2.2.2.trans (k4.mono H6.out.2.2.2.2.2.size)⟩
              clear k1 k2 k3 k4 KP2 H6
              go_wp2_with fail
              (with_reducible refine KS.out.mono ?_)
              rintro e w8 ⟨rfl, hb8⟩
              have H8 : Hid (Jr W.heap.size w8 J (hs1 ++ [cur]) nx ∧ Dr W.heap.size w8 Jd (hs1 ++ [cur]) nx ∧ Below W.heap.size W w8) := ⟨H7.out.1.on hb8, H7.out.2.1.on hb8, H7.out.2.2.trans (hb8.mono H7.out.2.2.size)⟩
              clear hb8 KS H7
              go_wp2
              go_roundw
              case rel => exact ⟨k + 1, (hs1 ++ [cur]), nx, by omega, by go_num, by rw [hl]; omega, H8.out⟩
              case measure => simp [intOf]; omega
            · by_cases hx2 : x = 2
              · subst hx2
                by_cases hmn0 : 0 ≤ o.n ∧ o.n ≤ (hs1.length : Int)
                · obtain ⟨m, hom⟩ := Int.eq_ofNat_of_zero_le hmn0.1
                  have hmn : m ≤ hs1.length := by omega
                  obtain ⟨res, hres⟩ : ∃ res, (hs1 ++ [cur])[m]? = some res := ⟨_, List.getElem?_eq_getElem (by simp; omega)⟩
                  have HOM := Lib.hid hom
                  clear hmn0 hom
                  go_wp2_with fail
                  have HD := Lib.hid (Off.of (n0 := W.heap.size) (Below.refl (wr.alloc (.cells #[.int .i64 o.what, .slice Ak o.key.length ck, .slice Av o.val.length cv, .int .i64 o.n] 32)).heap.size (wr.alloc (.cells #[.int .i64 o.what, .slice Ak o.key.length ck, .slice Av o.val.length cv, .int .i64 o.n] 32))).drew)
                  have HDR := Lib.hid (HRX.out.2.1.on (Below.refl _ _).drew)
                  have HBD : Hid (Below W.heap.size wr (wr.alloc (.cells #[.int .i64 o.what, .slice Ak o.key.length ck, .slice Av o.val.length cv, .int .i64 o.n] 32)).drew) := HBX.out.drew
                  have HJD := Lib.hid (HRX.out.1.on (Below.refl _ _).drew)
                  have HX0 := Lib.hid (HX.out _ (.of (n0 := W.heap.size) (Below.refl (wr.alloc (.cells #[.int .i64 o.what, .slice Ak o.key.length ck, .slice Av o.val.length cv, .int .i64 o.n] 32)).heap.size (wr.alloc (.cells #[.int .i64 o.what, .slice Ak o.key.length ck, .slice Av o.val.length cv, .int .i64 o.n] 32))).drew))
                  have KJ0 := undoC W.heap.size _ J hs1 cur HJD.out m hmn res hres
                  rw [← HOM.out] at KJ0
                  have KJ := Lib.hid KJ0
                  clear KJ0
                  refine wp_region_held_drew (S := (fun w' => w'.cell? ⟨wr.heap.size, 0, none⟩ = some (.int .i64 o.what) ∧ w'.cell? ⟨wr.heap.size, 1, none⟩ = some (.slice Ak o.key.length ck) ∧ w'.cell? ⟨wr.heap.size, 2, none⟩ = some (.slice Av o.val.length cv) ∧ w'.cell? ⟨wr.heap.size, 3, none⟩ = some (.int .i64 o.n))) (by kernel_rfl) HX0.out (fun hHeld => ?_)
                  generalize hwd : (wr.alloc (.cells #[.int .i64 o.what, .slice Ak o.key.length ck, .slice Av o.val.length cv, .int .i64 o.n] 32)).drew = wd at *
                  refine wpAnyH_take (i := 0) (v := ?vuy1) rfl (by kernel_rfl) (by kernel_rfl) (by kernel_rfl) (fun _ _ _ h => h) (Or.inl ⟨by kernel_rfl, ?yuy1⟩) (by assumption) ?ruy1
                  case yuy1 => (intro w hSw; (try dsimp only at hSw); obtain ⟨s1, s2, s3, s4⟩ := hSw; go_simp; (try with_reducible rfl))
                  try simp only [Act.put, List.getElem_toArray, List.getElem_cons_zero, List.getElem_cons_succ, List.setIfInBounds_toArray, List.set_cons_zero, List.set_cons_succ]
                  refine wpAnyH_take (i := 1) (v := ?vuy2) rfl (by kernel_rfl) (by kernel_rfl) (by kernel_rfl) (fun _ _ _ h => h) (Or.inl ⟨by kernel_rfl, ?yuy2⟩) (by assumption) ?ruy2
                  case yuy2 => (intro w hSw; (try dsimp only at hSw); obtain ⟨s1, s2, s3, s4⟩ := hSw; go_simp; (try with_reducible rfl))
                  try simp only [Act.put, List.getElem_toArray, List.getElem_cons_zero, List.getElem_cons_succ, List.setIfInBounds_toArray, List.set_cons_zero, List.set_cons_succ]
                  refine wpAnyH_take (i := 2) (v := ?vuy3) rfl (by kernel_rfl) (by kernel_rfl) (by kernel_rfl) (fun _ _ _ h => h) (Or.inl ⟨by kernel_rfl, ?yuy3⟩) (by assumption) ?ruy3
                  case yuy3 => (intro w hSw; (try dsimp only at hSw); obtain ⟨s1, s2, s3, s4⟩ := hSw; go_simp; (try with_reducible rfl))
                  try simp only [Act.put, List.getElem_toArray, List.getElem_cons_zero, List.getElem_cons_succ, List.setIfInBounds_toArray, List.set_cons_zero, List.set_cons_succ]
                  refine wpAnyH_take (i := 4) (v := ?vuy4) rfl (by kernel_rfl) (by kernel_rfl) (by kernel_rfl) (fun _ _ _ h => h) (Or.inl ⟨by kernel_rfl, ?yuy4⟩) (by assumption) ?ruy4
                  case yuy4 => (intro w hSw; (try dsimp only at hSw); obtain ⟨s1, s2, s3, s4⟩ := hSw; go_simp; (try with_reducible rfl))
                  try simp only [Act.put, List.getElem_toArray, List.getElem_cons_zero, List.getElem_cons_succ, List.setIfInBounds_toArray, List.set_cons_zero, List.set_cons_succ]
                  refine wpAnyH_take (i := 5) (v := ?vuy5) rfl (by kernel_rfl) (by kernel_rfl) (by kernel_rfl) (fun _ _ _ h => h) (Or.inl ⟨by kernel_rfl, ?yuy5⟩) (by assumption) ?ruy5
                  case yuy5 => (intro w hSw; (try dsimp only at hSw); obtain ⟨s1, s2, s3, s4⟩ := hSw; go_simp; (try with_reducible rfl))
                  try simp only [Act.put, List.getElem_toArray, List.getElem_cons_zero, List.getElem_cons_succ, List.setIfInBounds_toArray, List.set_cons_zero, List.set_cons_succ]
                  refine wpAnyH_take (i := 6) (v := ?vuy6) rfl (by kernel_rfl) (by kernel_rfl) (by kernel_rfl) (fun _ _ _ h => h) (Or.inl ⟨by kernel_rfl, ?yuy6⟩) (by assumption) ?ruy6
                  case yuy6 => (intro w hSw; (try dsimp only at hSw); obtain ⟨s1, s2, s3, s4⟩ := hSw; go_simp; (try with_reducible rfl))
                  try simp only [Act.put, List.getElem_toArray, List.getElem_cons_zero, List.getElem_cons_succ, List.setIfInBounds_toArray, List.set_cons_zero, List.set_cons_succ]
                  refine wpAnyH_ready (rs := [3]) (by kernel_rfl) (by simp) ?_
                  refine AllReadyH.cons rfl (fun K hK => ?_) AllReadyH.nil
                  go_simp
                  (with_reducible refine KJ.out.mono ?_)
                  rintro e w4 ⟨rfl, hch⟩
                  have H4 : Hid (Jr W.heap.size w4 J (hs1.take m) res ∧ Dr W.heap.size w4 Jd hs1 cur ∧ Off W.heap.size wd w4) := ⟨hch.2.2, HDR.out.beside HJD.out hch, hch.1⟩
                  clear hch
                  have HB4 : Hid (Below W.heap.size wr w4) := HBD.out.trans (H4.out.2.2.below (Nat.le_trans HR.out.2.2.size HBD.out.size))
                  have HX4 := Lib.hid (HX.out w4 (HD.out.trans H4.out.2.2))
                  have KD0 := refUndoC W.heap.size w4 Jd hs1 cur H4.out.2.1 m hmn res hres
                  rw [← HOM.out] at KD0
                  have KD := Lib.hid KD0
                  clear KD0
                  go_wp2_with fail
                  refine hK.out _ _ HX4.out (fun hHeld => ?_)
                  clear hK K
                  refine wpAnyH_ready (rs := [7]) (by kernel_rfl) (by simp) ?_
                  refine AllReadyH.cons rfl (fun K hK => ?_) AllReadyH.nil
                  go_simp
                  (with_reducible refine KD.out.mono ?_)
                  rintro e wz ⟨rfl, hdh⟩
                  have HT0 : Hid ((Jr W.heap.size wz J (hs1.take m) res ∧ Dr W.heap.size wz Jd (hs1.take m) res ∧ Below W.heap.size W wz) ∧ Off W.heap.size w4 wz) := ⟨⟨H4.out.1.beside H4.out.2.1 hdh, hdh.2.2, (HR.out.2.2.trans HB4.out).trans (hdh.1.below (Nat.le_trans HR.out.2.2.size HB4.out.size))⟩, hdh.1⟩
                  clear hdh
                  have HT : Hid (Jr W.heap.size wz J (hs1.take m) res ∧ Dr W.heap.size wz Jd (hs1.take m) res ∧ Below W.heap.size W wz) := HT0.out.1
                  have HXz := Lib.hid (HX.out wz ((HD.out.trans H4.out.2.2).trans HT0.out.2))
                  go_wp2_with fail
                  refine hK.out _ _ HXz.out (fun hHeld => ?_)
                  clear hK K HX4 KD KJ HB4 H4 HDR HJD HBD HD HT0 HX0
                  refine wpAnyH_take (i := 8) (v := ?vuy7) rfl (by kernel_rfl) (by kernel_rfl) (by kernel_rfl) (fun _ _ _ h => h) (Or.inl ⟨by kernel_rfl, ?yuy7⟩) (by assumption) ?ruy7
                  case yuy7 => (intro w hSw; (try dsimp only at hSw); obtain ⟨s1, s2, s3, s4⟩ := hSw; go_simp; (try with_reducible rfl))
                  try simp only [Act.put, List.getElem_toArray, List.getElem_cons_zero, List.getElem_cons_succ, List.setIfInBounds_toArray, List.set_cons_zero, List.set_cons_succ]
                  refine wpAnyH_take (i := 9) (v := ?vuy8) rfl (by kernel_rfl) (by kernel_rfl) (by kernel_rfl) (fun _ _ _ h => h) (Or.inl ⟨by kernel_rfl, ?yuy8⟩) (by assumption) ?ruy8
                  case yuy8 => (intro w hSw; (try dsimp only at hSw); obtain ⟨s1, s2, s3, s4⟩ := hSw; go_simp; (try with_reducible rfl))
                  try simp only [Act.put, List.getElem_toArray, List.getElem_cons_zero, List.getElem_cons_succ, List.setIfInBounds_toArray, List.set_cons_zero, List.set_cons_succ]
                  refine wpAnyH_done (by kernel_rfl) ?_ _
                  clear hHeld HXz HX hwd HSB HRX HBX y1 y2 y3 y4 HC
                  have hl2 : (hs1.take m).length ≤ hs1.length := by rw [List.length_take]; omega
                  clear hres HOM hmn
                  generalize hs1.take m = ht at *
                  have KM1 := Lib.hid (markC _ _ J _ _ HT.out.1)
                  have KM2 := Lib.hid (refMarkC _ _ Jd _ _ HT.out.2.1)
                  have KP1 := Lib.hid (pairsC _ _ J _ _ HT.out.1)
                  generalize hres0 : res = nx at *
                  go_wp2_with (first | (go_at_call 20; (with_reducible refine KM1.out.mono ?_); rintro e w5 ⟨rfl, rfl⟩) | (go_at_call 21; (with_reducible refine KM2.out.mono ?_); rintro e w5 ⟨rfl, rfl⟩) | fail)
                  (with_reducible refine KP1.out.mono ?_)
                  rintro e w6 h6
                  obtain ⟨A6, c6, rfl, g1, g2, g3, g4, g5⟩ := h6.f
                  have H6 : Hid (nx.length ≤ c6 ∧ c6 ≤ maxLen ∧ Prs w6 w6.heap.size A6 c6 nx ∧ Jr W.heap.size w6 J ht nx ∧ Dr W.heap.size w6 Jd ht nx ∧ Below W.heap.size W w6) := ⟨g1, g2, g3.here, HT.out.1.on g5, HT.out.2.1.on g5, HT.out.2.2.trans (g5.mono HT.out.2.2.size)⟩
                  have KP2 := Lib.hid (refPairsC _ _ Jd _ _ H6.out.2.2.2.2.1)
                  clear h6 g1 g2 g3 g4 g5 KM1 KM2 KP1 HT
                  go_wp2_with fail
                  (with_reducible refine KP2.out.mono ?_)
                  rintro e w7 ⟨A7, c7, rfl, k1, k2, k3, k4⟩
                  have KS : Hid (Calls Try.prog 22 #[.slice A6 nx.length c6, .slice A7 nx.length c7] w7 fun e w' => e = .returned (.bool true) ∧ Below w7.heap.size w7 w') := by have := sameC A6 nx c6 A7 nx c7 w7 (H6.out.2.2.1.on k4) H6.out.1 H6.out.2.1 k3.1; rw [decide_eq_true rfl] at this; exact this
                  have H7 : Hid (Jr W.heap.size w7 J ht nx ∧ Dr W.heap.size w7 Jd ht nx ∧ Below W.heap.size W w7) := ⟨H6.out.2.2.2.1.on k4, H6.out.2.2.2.2.1.on k4, H6.out.2.2.2.2.2.trans (k4.mono H6.out.2.2.2.2.2.size)⟩
                  clear k1 k2 k3 k4 KP2 H6
                  go_wp2_with fail
                  (with_reducible refine KS.out.mono ?_)
                  rintro e w8 ⟨rfl, hb8⟩
                  have H8 : Hid (Jr W.heap.size w8 J ht nx ∧ Dr W.heap.size w8 Jd ht nx ∧ Below W.heap.size W w8) := ⟨H7.out.1.on hb8, H7.out.2.1.on hb8, H7.out.2.2.trans (hb8.mono H7.out.2.2.size)⟩
                  clear hb8 KS H7
                  go_wp2
                  go_roundw
                  case rel => exact ⟨k + 1, ht, nx, by omega, by go_num, by omega, H8.out⟩
                  case measure => simp [intOf]; omega
                · have hbad : o.n < 0 ∨ (hs1.length : Int) < o.n := by omega
                  clear hmn0
                  go_wp2_with fail
                  have HD := Lib.hid (Off.of (n0 := W.heap.size) (Below.refl (wr.alloc (.cells #[.int .i64 o.what, .slice Ak o.key.length ck, .slice Av o.val.length cv, .int .i64 o.n] 32)).heap.size (wr.alloc (.cells #[.int .i64 o.what, .slice Ak o.key.length ck, .slice Av o.val.length cv, .int .i64 o.n] 32))).drew)
                  have HDR := Lib.hid (HRX.out.2.1.on (Below.refl _ _).drew)
                  have HBD : Hid (Below W.heap.size wr (wr.alloc (.cells #[.int .i64 o.what, .slice Ak o.key.length ck, .slice Av o.val.length cv, .int .i64 o.n] 32)).drew) := HBX.out.drew
                  have HJD := Lib.hid (HRX.out.1.on (Below.refl _ _).drew)
                  have HX0 := Lib.hid (HX.out _ (.of (n0 := W.heap.size) (Below.refl (wr.alloc (.cells #[.int .i64 o.what, .slice Ak o.key.length ck, .slice Av o.val.length cv, .int .i64 o.n] 32)).heap.size (wr.alloc (.cells #[.int .i64 o.what, .slice Ak o.key.length ck, .slice Av o.val.length cv, .int .i64 o.n] 32))).drew))
                  have KJ := Lib.hid (undoBad W.heap.size _ J hs1 cur HJD.out o.n hbad)
                  refine wp_region_held_drew (S := (fun w' => w'.cell? ⟨wr.heap.size, 0, none⟩ = some (.int .i64 o.what) ∧ w'.cell? ⟨wr.heap.size, 1, none⟩ = some (.slice Ak o.key.length ck) ∧ w'.cell? ⟨wr.heap.size, 2, none⟩ = some (.slice Av o.val.length cv) ∧ w'.cell? ⟨wr.heap.size, 3, none⟩ = some (.int .i64 o.n))) (by kernel_rfl) HX0.out (fun hHeld => ?_)
                  generalize hwd : (wr.alloc (.cells #[.int .i64 o.what, .slice Ak o.key.length ck, .slice Av o.val.length cv, .int .i64 o.n] 32)).drew = wd at *
                  refine wpAnyH_take (i := 0) (v := ?vun1) rfl (by kernel_rfl) (by kernel_rfl) (by kernel_rfl) (fun _ _ _ h => h) (Or.inl ⟨by kernel_rfl, ?yun1⟩) (by assumption) ?run1
                  case yun1 => (intro w hSw; (try dsimp only at hSw); obtain ⟨s1, s2, s3, s4⟩ := hSw; go_simp; (try with_reducible rfl))
                  try simp only [Act.put, List.getElem_toArray, List.getElem_cons_zero, List.getElem_cons_succ, List.setIfInBounds_toArray, List.set_cons_zero, List.set_cons_succ]
                  refine wpAnyH_take (i := 1) (v := ?vun2) rfl (by kernel_rfl) (by kernel_rfl) (by kernel_rfl) (fun _ _ _ h => h) (Or.inl ⟨by kernel_rfl, ?yun2⟩) (by assumption) ?run2
                  case yun2 => (intro w hSw; (try dsimp only at hSw); obtain ⟨s1, s2, s3, s4⟩ := hSw; go_simp; (try with_reducible rfl))
                  try simp only [Act.put, List.getElem_toArray, List.getElem_cons_zero, List.getElem_cons_succ, List.setIfInBounds_toArray, List.set_cons_zero, List.set_cons_succ]
                  refine wpAnyH_take (i := 2) (v := ?vun3) rfl (by kernel_rfl) (by kernel_rfl) (by kernel_rfl) (fun _ _ _ h => h) (Or.inl ⟨by kernel_rfl, ?yun3⟩) (by assumption) ?run3
                  case yun3 => (intro w hSw; (try dsimp only at hSw); obtain ⟨s1, s2, s3, s4⟩ := hSw; go_simp; (try with_reducible rfl))
                  try simp only [Act.put, List.getElem_toArray, List.getElem_cons_zero, List.getElem_cons_succ, List.setIfInBounds_toArray, List.set_cons_zero, List.set_cons_succ]
                  refine wpAnyH_take (i := 4) (v := ?vun4) rfl (by kernel_rfl) (by kernel_rfl) (by kernel_rfl) (fun _ _ _ h => h) (Or.inl ⟨by kernel_rfl, ?yun4⟩) (by assumption) ?run4
                  case yun4 => (intro w hSw; (try dsimp only at hSw); obtain ⟨s1, s2, s3, s4⟩ := hSw; go_simp; (try with_reducible rfl))
                  try simp only [Act.put, List.getElem_toArray, List.getElem_cons_zero, List.getElem_cons_succ, List.setIfInBounds_toArray, List.set_cons_zero, List.set_cons_succ]
                  refine wpAnyH_take (i := 5) (v := ?vun5) rfl (by kernel_rfl) (by kernel_rfl) (by kernel_rfl) (fun _ _ _ h => h) (Or.inl ⟨by kernel_rfl, ?yun5⟩) (by assumption) ?run5
                  case yun5 => (intro w hSw; (try dsimp only at hSw); obtain ⟨s1, s2, s3, s4⟩ := hSw; go_simp; (try with_reducible rfl))
                  try simp only [Act.put, List.getElem_toArray, List.getElem_cons_zero, List.getElem_cons_succ, List.setIfInBounds_toArray, List.set_cons_zero, List.set_cons_succ]
                  refine wpAnyH_take (i := 6) (v := ?vun6) rfl (by kernel_rfl) (by kernel_rfl) (by kernel_rfl) (fun _ _ _ h => h) (Or.inl ⟨by kernel_rfl, ?yun6⟩) (by assumption) ?run6
                  case yun6 => (intro w hSw; (try dsimp only at hSw); obtain ⟨s1, s2, s3, s4⟩ := hSw; go_simp; (try with_reducible rfl))
                  try simp only [Act.put, List.getElem_toArray, List.getElem_cons_zero, List.getElem_cons_succ, List.setIfInBounds_toArray, List.set_cons_zero, List.set_cons_succ]
                  refine wpAnyH_ready (rs := [3]) (by kernel_rfl) (by simp) ?_
                  refine AllReadyH.cons rfl (fun K hK => ?_) AllReadyH.nil
                  go_simp
                  (with_reducible refine KJ.out.mono ?_)
                  rintro e w4 ⟨rfl, hb4⟩
                  have H4 : Hid (Jr W.heap.size w4 J hs1 cur ∧ Dr W.heap.size w4 Jd hs1 cur ∧ Off W.heap.size wd w4) := ⟨HJD.out.on hb4, HDR.out.on hb4, .of hb4⟩
                  clear hb4
                  have HB4 : Hid (Below W.heap.size wr w4) := HBD.out.trans (H4.out.2.2.below (Nat.le_trans HR.out.2.2.size HBD.out.size))
                  have HX4 := Lib.hid (HX.out w4 (HD.out.trans H4.out.2.2))
                  have KD := Lib.hid (refUndoBad W.heap.size w4 Jd hs1 cur H4.out.2.1 o.n hbad)
                  go_wp2_with fail
                  refine hK.out _ _ HX4.out (fun hHeld => ?_)
                  clear hK K
                  refine wpAnyH_ready (rs := [7]) (by kernel_rfl) (by simp) ?_
                  refine AllReadyH.cons rfl (fun K hK => ?_) AllReadyH.nil
                  go_simp
                  (with_reducible refine KD.out.mono ?_)
                  rintro e wz ⟨rfl, hb5⟩
                  have HT0 : Hid ((Jr W.heap.size wz J hs1 cur ∧ Dr W.heap.size wz Jd hs1 cur ∧ Below W.heap.size W wz) ∧ Off W.heap.size w4 wz) := ⟨⟨H4.out.1.on hb5, H4.out.2.1.on hb5, (HR.out.2.2.trans HB4.out).trans (hb5.mono (Nat.le_trans HR.out.2.2.size HB4.out.size))⟩, .of hb5⟩
                  clear hb5
                  have HT : Hid (Jr W.heap.size wz J hs1 cur ∧ Dr W.heap.size wz Jd hs1 cur ∧ Below W.heap.size W wz) := HT0.out.1
                  have HXz := Lib.hid (HX.out wz ((HD.out.trans H4.out.2.2).trans HT0.out.2))
                  go_wp2_with fail
                  refine hK.out _ _ HXz.out (fun hHeld => ?_)
                  clear hK K HX4 KD KJ HB4 H4 HDR HJD HBD HD HT0 HX0
                  refine wpAnyH_take (i := 8) (v := ?vun7) rfl (by kernel_rfl) (by kernel_rfl) (by kernel_rfl) (fun _ _ _ h => h) (Or.inl ⟨by kernel_rfl, ?yun7⟩) (by assumption) ?run7
                  case yun7 => (intro w hSw; (try dsimp only at hSw); obtain ⟨s1, s2, s3, s4⟩ := hSw; go_simp; (try with_reducible rfl))
                  try simp only [Act.put, List.getElem_toArray, List.getElem_cons_zero, List.getElem_cons_succ, List.setIfInBounds_toArray, List.set_cons_zero, List.set_cons_succ]
                  refine wpAnyH_take (i := 9) (v := ?vun8) rfl (by kernel_rfl) (by kernel_rfl) (by kernel_rfl) (fun _ _ _ h => h) (Or.inl ⟨by kernel_rfl, ?yun8⟩) (by assumption) ?run8
                  case yun8 => (intro w hSw; (try dsimp only at hSw); obtain ⟨s1, s2, s3, s4⟩ := hSw; go_simp; (try with_reducible rfl))
                  try simp only [Act.put, List.getElem_toArray, List.getElem_cons_zero, List.getElem_cons_succ, List.setIfInBounds_toArray, List.set_cons_zero, List.set_cons_succ]
                  refine wpAnyH_done (by kernel_rfl) ?_ _
                  clear hHeld HXz HX hwd HSB HRX HBX y1 y2 y3 y4 HC
                  have KM1 := Lib.hid (markC _ _ J _ _ HT.out.1)
                  have KM2 := Lib.hid (refMarkC _ _ Jd _ _ HT.out.2.1)
                  have KP1 := Lib.hid (pairsC _ _ J _ _ HT.out.1)
                  go_wp2_with (first | (go_at_call 20; (with_reducible refine KM1.out.mono ?_); rintro e w5 ⟨rfl, rfl⟩) | (go_at_call 21; (with_reducible refine KM2.out.mono ?_); rintro e w5 ⟨rfl, rfl⟩) | fail)
                  (with_reducible refine KP1.out.mono ?_)
                  rintro e w6 h6
                  obtain ⟨A6, c6, rfl, g1, g2, g3, g4, g5⟩ := h6.f
                  have H6 : Hid (cur.length ≤ c6 ∧ c6 ≤ maxLen ∧ Prs w6 w6.heap.size A6 c6 cur ∧ Jr W.heap.size w6 J hs1 cur ∧ Dr W.heap.size w6 Jd hs1 cur ∧ Below W.heap.size W w6) := ⟨g1, g2, g3.here, HT.out.1.on g5, HT.out.2.1.on g5, HT.out.2.2.trans (g5.mono HT.out.2.2.size)⟩
                  have KP2 := Lib.hid (refPairsC _ _ Jd _ _ H6.out.2.2.2.2.1)
                  clear h6 g1 g2 g3 g4 g5 KM1 KM2 KP1 HT
                  go_wp2_with fail
                  (with_reducible refine KP2.out.mono ?_)
                  rintro e w7 ⟨A7, c7, rfl, k1, k2, k3, k4⟩
                  have KS : Hid (Calls Try.prog 22 #[.slice A6 cur.length c6, .slice A7 cur.length c7] w7 fun e w' => e = .returned (.bool true) ∧ Below w7.heap.size w7 w') := by have := sameC A6 cur c6 A7 cur c7 w7 (H6.out.2.2.1.on k4) H6.out.1 H6.out.2.1 k3.1; rw [decide_eq_true rfl] at this; exact this
                  have H7 : Hid (Jr W.heap.size w7 J hs1 cur ∧ Dr W.heap.size w7 Jd hs1 cur ∧ Below W.heap.size W w7) := ⟨H6.out.2.2.2.1.on k4, H6.out.2.2.2.2.1.on k4, H6.out.2.2.2.2.2.trans (k4.mono H6.out.2.2.2.2.2.size)⟩
                  clear k1 k2 k3 k4 KP2 H6
                  go_wp2_with fail
                  (with_reducible refine KS.out.mono ?_)
                  rintro e w8 ⟨rfl, hb8⟩
                  have H8 : Hid (Jr W.heap.size w8 J hs1 cur ∧ Dr W.heap.size w8 Jd hs1 cur ∧ Below W.heap.size W w8) := ⟨H7.out.1.on hb8, H7.out.2.1.on hb8, H7.out.2.2.trans (hb8.mono H7.out.2.2.size)⟩
                  clear hb8 KS H7
                  go_wp2
                  go_roundw
                  case rel => exact ⟨k + 1, hs1, cur, by omega, by go_num, by omega, H8.out⟩
                  case measure => simp [intOf]; omega
              · by_cases hx3 : x = 3
                · subst hx3
                  have KJ := Lib.hid (jgetC W.heap.size _ J hs1 cur HRX.out.1 Ak o.key ck (HSB.out _ HBX.out).1)
                  generalize hgv : getM cur o.key = gv at *
                  generalize hhv : hasM cur o.key = hv at *
                  go_wp2_with fail
                  (with_reducible refine KJ.out.mono ?_)
                  rintro e w4 ⟨V, rfl, v1, v2, v3⟩
                  have H4 : Hid (Jr W.heap.size w4 J hs1 cur ∧ Dr W.heap.size w4 Jd hs1 cur ∧ Below W.heap.size wr w4) := ⟨HRX.out.1.on v3, HRX.out.2.1.on v3, HBX.out.trans (v3.mono (Nat.le_trans HR.out.2.2.size HBX.out.size))⟩
                  obtain ⟨z1, z2, z3, z4⟩ := HX.out w4 (.of v3)
                  have KD : Hid (Calls Try.prog 19 #[.pointer (some ⟨Jd, 0, none⟩), .slice Ak o.key.length ck] w4 (GotO w4 gv hv)) := by have := refGetJC W.heap.size w4 Jd hs1 cur H4.out.2.1 Ak o.key ck (HSB.out w4 H4.out.2.2).1; rw [hgv, hhv] at this; exact this
                  have HV := Lib.hid (own_SB v1 v2)
                  obtain ⟨A4, c4, rfl, _⟩ := own_SB v1 v2
                  clear v1 v2 v3 KJ
                  go_wp2_with fail
                  (with_reducible refine KD.out.mono ?_)
                  rintro e wz ⟨V2, rfl, v1, v2, v3⟩
                  have HT : Hid (Jr W.heap.size wz J hs1 cur ∧ Dr W.heap.size wz Jd hs1 cur ∧ Below W.heap.size W wz) := ⟨H4.out.1.on v3, H4.out.2.1.on v3, (HR.out.2.2.trans H4.out.2.2).trans (v3.mono (Nat.le_trans HR.out.2.2.size H4.out.2.2.size))⟩
                  have d1 := (HV.out.on v3).str
                  have hsv := own_SB v1 v2
                  have d2 := hsv.str
                  obtain ⟨A5, c5, rfl, _⟩ := hsv
                  generalize strOfNums gv = st at *
                  clear v1 v2 v3 KD H4 HX HSB HRX HBX y1 y2 y3 y4 z1 z2 z3 z4 HC HPX HV hgv hhv
                  cases hv with
                  | true =>
                    have KM1 := Lib.hid (markC _ _ J _ _ HT.out.1)
                    have KM2 := Lib.hid (refMarkC _ _ Jd _ _ HT.out.2.1)
                    have KP1 := Lib.hid (pairsC _ _ J _ _ HT.out.1)
                    go_wp2_with (first | (go_at_call 20; (with_reducible refine KM1.out.mono ?_); rintro e w5 ⟨rfl, rfl⟩) | (go_at_call 21; (with_reducible refine KM2.out.mono ?_); rintro e w5 ⟨rfl, rfl⟩) | fail)
                    (with_reducible refine KP1.out.mono ?_)
                    rintro e w6 h6
                    obtain ⟨A6, c6, rfl, g1, g2, g3, g4, g5⟩ := h6.f
                    have H6 : Hid (cur.length ≤ c6 ∧ c6 ≤ maxLen ∧ Prs w6 w6.heap.size A6 c6 cur ∧ Jr W.heap.size w6 J hs1 cur ∧ Dr W.heap.size w6 Jd hs1 cur ∧ Below W.heap.size W w6) := ⟨g1, g2, g3.here, HT.out.1.on g5, HT.out.2.1.on g5, HT.out.2.2.trans (g5.mono HT.out.2.2.size)⟩
                    have KP2 := Lib.hid (refPairsC _ _ Jd _ _ H6.out.2.2.2.2.1)
                    clear h6 g1 g2 g3 g4 g5 KM1 KM2 KP1 HT
                    go_wp2_with fail
                    (with_reducible refine KP2.out.mono ?_)
                    rintro e w7 ⟨A7, c7, rfl, k1, k2, k3, k4⟩
                    have KS : Hid (Calls Try.prog 22 #[.slice A6 cur.length c6, .slice A7 cur.length c7] w7 fun e w' => e = .returned (.bool true) ∧ Below w7.heap.size w7 w') := by have := sameC A6 cur c6 A7 cur c7 w7 (H6.out.2.2.1.on k4) H6.out.1 H6.out.2.1 k3.1; rw [decide_eq_true rfl] at this; exact this
                    have H7 : Hid (Jr W.heap.size w7 J hs1 cur ∧ Dr W.heap.size w7 Jd hs1 cur ∧ Below W.heap.size W w7) := ⟨H6.out.2.2.2.1.on k4, H6.out.2.2.2.2.1.on k4, H6.out.2.2.2.2.2.trans (k4.mono H6.out.2.2.2.2.2.size)⟩
                    clear k1 k2 k3 k4 KP2 H6
                    go_wp2_with fail
                    (with_reducible refine KS.out.mono ?_)
                    rintro e w8 ⟨rfl, hb8⟩
                    have H8 : Hid (Jr W.heap.size w8 J hs1 cur ∧ Dr W.heap.size w8 Jd hs1 cur ∧ Below W.heap.size W w8) := ⟨H7.out.1.on hb8, H7.out.2.1.on hb8, H7.out.2.2.trans (hb8.mono H7.out.2.2.size)⟩
                    clear hb8 KS H7
                    go_wp2
                    go_roundw
                    case rel => exact ⟨k + 1, hs1, cur, by omega, by go_num, by omega, H8.out⟩
                    case measure => simp [intOf]; omega
                  | false =>
                    have KM1 := Lib.hid (markC _ _ J _ _ HT.out.1)
                    have KM2 := Lib.hid (refMarkC _ _ Jd _ _ HT.out.2.1)
                    have KP1 := Lib.hid (pairsC _ _ J _ _ HT.out.1)
                    go_wp2_with (first | (go_at_call 20; (with_reducible refine KM1.out.mono ?_); rintro e w5 ⟨rfl, rfl⟩) | (go_at_call 21; (with_reducible refine KM2.out.mono ?_); rintro e w5 ⟨rfl, rfl⟩) | fail)
                    (with_reducible refine KP1.out.mono ?_)
                    rintro e w6 h6
                    obtain ⟨A6, c6, rfl, g1, g2, g3, g4, g5⟩ := h6.f
                    have H6 : Hid (cur.length ≤ c6 ∧ c6 ≤ maxLen ∧ Prs w6 w6.heap.size A6 c6 cur ∧ Jr W.heap.size w6 J hs1 cur ∧ Dr W.heap.size w6 Jd hs1 cur ∧ Below W.heap.size W w6) := ⟨g1, g2, g3.here, HT.out.1.on g5, HT.out.2.1.on g5, HT.out.2.2.trans (g5.mono HT.out.2.2.size)⟩
                    have KP2 := Lib.hid (refPairsC _ _ Jd _ _ H6.out.2.2.2.2.1)
                    clear h6 g1 g2 g3 g4 g5 KM1 KM2 KP1 HT
                    go_wp2_with fail
                    (with_reducible refine KP2.out.mono ?_)
                    rintro e w7 ⟨A7, c7, rfl, k1, k2, k3, k4⟩
                    have KS : Hid (Calls Try.prog 22 #[.slice A6 cur.length c6, .slice A7 cur.length c7] w7 fun e w' => e = .returned (.bool true) ∧ Below w7.heap.size w7 w') := by have := sameC A6 cur c6 A7 cur c7 w7 (H6.out.2.2.1.on k4) H6.out.1 H6.out.2.1 k3.1; rw [decide_eq_true rfl] at this; exact this
                    have H7 : Hid (Jr W.heap.size w7 J hs1 cur ∧ Dr W.heap.size w7 Jd hs1 cur ∧ Below W.heap.size W w7) := ⟨H6.out.2.2.2.1.on k4, H6.out.2.2.2.2.1.on k4, H6.out.2.2.2.2.2.trans (k4.mono H6.out.2.2.2.2.2.size)⟩
                    clear k1 k2 k3 k4 KP2 H6
                    go_wp2_with fail
                    (with_reducible refine KS.out.mono ?_)
                    rintro e w8 ⟨rfl, hb8⟩
                    have H8 : Hid (Jr W.heap.size w8 J hs1 cur ∧ Dr W.heap.size w8 Jd hs1 cur ∧ Below W.heap.size W w8) := ⟨H7.out.1.on hb8, H7.out.2.1.on hb8, H7.out.2.2.trans (hb8.mono H7.out.2.2.size)⟩
                    clear hb8 KS H7
                    go_wp2
                    go_roundw
                    case rel => exact ⟨k + 1, hs1, cur, by omega, by go_num, by omega, H8.out⟩
                    case measure => simp [intOf]; omega
                · have e0 : (x == 0) = false := by simpa using hx0
                  have e1 : (x == 1) = false := by simpa using hx1
                  have e2 : (x == 2) = false := by simpa using hx2
                  have e3 : (x == 3) = false := by simpa using hx3
                  clear hx0 hx1 hx2 hx3
                  have HT := HRX
                  have HTX : Hid (Jr W.heap.size _ J hs1 cur ∧ Dr W.heap.size _ Jd hs1 cur ∧ Below W.heap.size W _) := HRX.out
                  clear HX HSB HRX HBX HC HPX
                  have KM1 := Lib.hid (markC _ _ J _ _ HT.out.1)
                  have KM2 := Lib.hid (refMarkC _ _ Jd _ _ HT.out.2.1)
                  have KP1 := Lib.hid (pairsC _ _ J _ _ HT.out.1)
                  go_wp2_with (first | (go_at_call 20; (with_reducible refine KM1.out.mono ?_); rintro e w5 ⟨rfl, rfl⟩) | (go_at_call 21; (with_reducible refine KM2.out.mono ?_); rintro e w5 ⟨rfl, rfl⟩) | fail)
                  (with_reducible refine KP1.out.mono ?_)
                  rintro e w6 h6
                  obtain ⟨A6, c6, rfl, g1, g2, g3, g4, g5⟩ := h6.f
                  have H6 : Hid (cur.length ≤ c6 ∧ c6 ≤ maxLen ∧ Prs w6 w6.heap.size A6 c6 cur ∧ Jr W.heap.size w6 J hs1 cur ∧ Dr W.heap.size w6 Jd hs1 cur ∧ Below W.heap.size W w6) := ⟨g1, g2, g3.here, HT.out.1.on g5, HT.out.2.1.on g5, HT.out.2.2.trans (g5.mono HT.out.2.2.size)⟩
                  have KP2 := Lib.hid (refPairsC _ _ Jd _ _ H6.out.2.2.2.2.1)
                  clear h6 g1 g2 g3 g4 g5 KM1 KM2 KP1 HT
                  go_wp2_with fail
                  (with_reducible refine KP2.out.mono ?_)
                  rintro e w7 ⟨A7, c7, rfl, k1, k2, k3, k4⟩
                  have KS : Hid (Calls Try.prog 22 #[.slice A6 cur.length c6, .slice A7 cur.length c7] w7 fun e w' => e = .returned (.bool true) ∧ Below w7.heap.size w7 w') := by have := sameC A6 cur c6 A7 cur c7 w7 (H6.out.2.2.1.on k4) H6.out.1 H6.out.2.1 k3.1; rw [decide_eq_true rfl] at this; exact this
                  have H7 : Hid (Jr W.heap.size w7 J hs1 cur ∧ Dr W.heap.size w7 Jd hs1 cur ∧ Below W.heap.size W w7) := ⟨H6.out.2.2.2.1.on k4, H6.out.2.2.2.2.1.on k4, H6.out.2.2.2.2.2.trans (k4.mono H6.out.2.2.2.2.2.size)⟩
                  clear k1 k2 k3 k4 KP2 H6
                  go_wp2_with fail
                  (with_reducible refine KS.out.mono ?_)
                  rintro e w8 ⟨rfl, hb8⟩
                  have H8 : Hid (Jr W.heap.size w8 J hs1 cur ∧ Dr W.heap.size w8 Jd hs1 cur ∧ Below W.heap.size W w8) := ⟨H7.out.1.on hb8, H7.out.2.1.on hb8, H7.out.2.2.trans (hb8.mono H7.out.2.2.size)⟩
                  clear hb8 KS H7
                  go_wp2
                  go_roundw
                  case rel => exact ⟨k + 1, hs1, cur, by omega, by go_num, by omega, H8.out⟩
                  case measure => simp [intOf]; omega
        · obtain rfl : k = ops.length := by omega
          go_wp2
          go_ret
          exact ⟨rfl, HR.out.2.2⟩
  · go_enter Try.func3, Try.ntmps3
    go_wp2_with fail
    (with_reducible refine K0.out.mono ?_)
    rintro e w1 ⟨rfl, hb1⟩
    have HB1 := Lib.hid hb1
    have K1 := Lib.hid (newC_nil A ls c w1 (HP.out.on hb1) hc hm' hl hr)
    clear hb1
    go_wp2_with fail
    (with_reducible refine K1.out.mono ?_)
    rintro e w2 ⟨rfl, hb2⟩
    have HB2 := Lib.hid (HB1.out.trans (hb2.mono HB1.out.size))
    have K2 := Lib.hid (refNewC_nil A ls c w2 (HP.out.on HB2.out) hc hm' hl hr)
    clear hb2
    go_wp2_with fail
    (with_reducible refine K2.out.mono ?_)
    rintro e w3 ⟨rfl, hb3⟩
    have HB3 := Lib.hid (HB2.out.trans (hb3.mono HB2.out.size))
    clear hb3
    go_wp2
    go_ret
    exact ⟨rfl, HB3.out⟩
end Go.Proofs.Ytncbbjodianmoaa

namespace Go.Proofs.Ytncbbjodianmoaa
open Go.ChangeShapes Go.WideShapes Go.ChangeAt Go.RowKit
set_option linter.unusedVariables false

set_option maxRecDepth 100000 in
theorem journalPlays_lifted (os : Os) (started : os.Started) (H : Type) (enc : TypeId × Value → H) :
    ReturnsInHanded {} Try.checked os 3 .any (Rows.journalPlaysSpec.pre6 enc Try.prog Try.f3 Rows.journalPlaysRow.domain false) (Rows.journalPlaysSpec.post enc Try.prog Try.f3 false true false false) := by
  refine returnsInHanded_of_change_sized (C := Try.checked) own started (by kernel_rfl) Try.func3
    (ChangeSpec.witness6 (enc := enc) (C := Try.checked) false ⟨#[], #[.slice none 0 0, .slice none 0 0], []⟩ 8 (by kernel_rfl) (by kernel_rfl) (by kernel_rfl) (by kernel_rfl)) ?_
  intro W base args ds gs before hval0 hW hcnd hsz0 _
  have hval : ∀ (j : Nat) t v, Try.f3.params[j]? = some t → args[j]? = some v → Value.okWide Try.prog W .any base t v := hval0
  have hsz : (DataW.weightsEach Try.prog (Try.f3.params.toList ++ Rows.journalPlaysSpec.plain.varTypes Try.prog) (ds ++ gs)).all (· ≤ reachBytes) = true := hsz0
  have hW' := hW
  obtain ⟨p, q, hA0, hV, rfl, hfz, hnd⟩ := hW
  have hA : DataW.TrodAll enc Try.prog W 0 (fun _ => true) true Try.f3.params.toList args.toList ds p := hA0
  rw [Try.params3] at hA hval hsz
  obtain ⟨v0, vs0, d0, ds0, p0, q0, hargs, rfl, rfl, h0, r0⟩ := trodAll_cons hA
  obtain ⟨v1, vs1, d1, ds1, p1, q1, rfl, rfl, rfl, h1, r1⟩ := trodAll_cons r0
  obtain ⟨rfl, rfl, rfl⟩ := trodAll_nil r1
  obtain rfl : args = #[v0, v1] := by cases args; simp_all
  obtain ⟨rfl, rfl⟩ := trodVars_none hV
  obtain ⟨a0, len0, cap0, rfl⟩ := okWide_slice Try.underlying22 (hval 0 22 v0 rfl rfl)
  have lt0 : ∀ x ∈ p0, x.block < W.heap.size := by obtain ⟨m, hm⟩ := h0; exact DataW.trod_lt m _ _ _ hm
  have g0 := reach_pairs h0 hsz (j := 0) rfl rfl
  obtain ⟨s0, rfl, x0, y0, l0⟩ := view_pairs h0
  obtain ⟨a1, len1, cap1, rfl⟩ := okWide_slice Try.underlying23 (hval 1 23 v1 rfl rfl)
  have lt1 : ∀ x ∈ p1, x.block < W.heap.size := by obtain ⟨m, hm⟩ := h1; exact DataW.trod_lt m _ _ _ hm
  obtain ⟨s1, rfl, x1, y1, l1⟩ := view_ops h1
  clear hA0 hval0
  refine (playsC W a0 s0 cap0 l0 x0 y0 g0 a1 s1 cap1 l1 x1 y1).mono fun e W' ⟨he, bel⟩ => ?_
  subst he
  exact ⟨_, rfl, _, _, _, [], _, [], hW', trodAll_mk1 (shut_bool Try.underlying4 _), (trodAll_cons_mk (Below.trod laidOut (by kernel_rfl) (of_decide_eq_true (by kernel_rfl)) h0 bel lt0) (trodAll_cons_mk (Below.trod laidOut (by kernel_rfl) (of_decide_eq_true (by kernel_rfl)) h1 bel lt1) trodAll_mk0)), rfl, bel.frame _, fun h => by cases h⟩

theorem journalPlays_holds : Rows.JournalPlaysSaid :=
  OpenClaim.holds_of_wide 3 Try.f3 rfl rfl rfl rfl rfl rfl rfl ⟨rfl, rfl, rfl, rfl, rfl⟩ rfl rfl rfl rfl rfl (by kernel_rfl) Try.func3 (by kernel_rfl)
    (of_decide_eq_true (by kernel_rfl)) (by unfold Func.isWrapper; first | (rw [if_pos (by decide +kernel)]; kernel_rfl) | (rw [if_neg (by decide +kernel)]; exact ⟨rfl, rfl⟩))
    (fun os started H enc _ => journalPlays_lifted os started H enc)
#print axioms journalPlays_holds
end Go.Proofs.Ytncbbjodianmoaa
