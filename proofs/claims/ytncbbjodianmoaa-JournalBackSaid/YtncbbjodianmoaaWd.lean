/- The walk of JournalBack. Conditions: what came in lies in memory. -/
import Derived.Test.YtncbbjodianmoaaWc
namespace Go.Proofs.Ytncbbjodianmoaa
open Go.RowKit
set_option linter.unusedSimpArgs false
set_option linter.unusedVariables false

/-- the variable that a closure shares -/
def BoxJ (w : World) (B J : Nat) : Prop := w.heap[B]? = some (.cells #[.pointer (some ⟨J, 0, none⟩)] 25 (0, 0))
theorem BoxJ.off {n0 : Nat} {w w' : World} {B J : Nat} (h : BoxJ w B J) (ho : Off n0 w w') : BoxJ w' B J := by
  unfold BoxJ at *
  rw [ho.block B (Array.getElem?_eq_some_iff.1 h).1 (fun hx => by
    obtain ⟨_, cs', T, z', h2, h3, _⟩ := hx
    rw [h] at h2
    injection h2 with h2
    injection h2 with _ h2 _
    subst h2
    revert h3
    decide) (.inr ⟨_, _, _, h⟩)]
  exact h
theorem BoxJ.cell {w : World} {B J : Nat} (h : BoxJ w B J) : w.cell? ⟨B, 0, none⟩ = some (.pointer (some ⟨J, 0, none⟩)) := by unfold BoxJ at h; simp [World.cell?, h]

set_option maxHeartbeats 3200000 in
/-- all the calls of a row are done -/
theorem doC (n0 : Nat) (w : World) (J Bx : Nat) (hs0 : List (List PR)) (cur0 : List PR) (h : Jr n0 w J hs0 cur0) (hbx : BoxJ w Bx J) (Ao : Option Addr) (ops : List OpT) (co : Nat) (ho : OpsB w n0 Ao ops) (hn0 : n0 ≤ w.heap.size) (hco : ops.length ≤ co) (hmo : co ≤ maxLen) (hs : ops.length ≤ 300) (hl0 : hs0.length ≤ 600) :
    Calls Try.prog 25 #[.slice Ao ops.length co, .pointer (some ⟨Bx, 0, none⟩)] w fun e w' => e = .returned (.tuple #[]) ∧ Off n0 w w' ∧ ∃ hs' cur', Jr n0 w' J hs' cur' ∧ (hs0 ++ [cur0]) <+: (hs' ++ [cur']) ∧ hs'.length ≤ hs0.length + ops.length := by
  have HO := Lib.hid ho
  have HJ := Lib.hid h
  have HB := Lib.hid hbx
  clear ho h hbx
  unfold maxLen at hmo
  go_enter Try.func25, Try.ntmps25
  go_wp2
  go_loopw [3] (fun i wr => ∃ (k : Nat) (hs1 : List (List PR)) (cur : List PR), k ≤ ops.length ∧ i = .int .i64 k ∧ hs1.length ≤ hs0.length + k ∧ Hid (Jr n0 wr J hs1 cur ∧ (hs0 ++ [cur0]) <+: (hs1 ++ [cur]) ∧ Off n0 w wr)) (fun i _ => ops.length - (intOf i).toNat)
  case atStart => exact ⟨0, hs0, cur0, Nat.zero_le _, rfl, Nat.le_refl _, HJ.out, List.prefix_refl _, Off.refl _ _⟩
  case round =>
    obtain ⟨k, hs1, cur, hk, rfl, hle, HR⟩ := hrel
    by_cases hlt : k < ops.length
    · have hg : ops[k]? = some ops[k] := List.getElem?_eq_getElem hlt
      generalize ops[k] = o at hg
      have hbl := HR.out.2.2.below hn0
      obtain ⟨b, off, rfl, Ak, ck, Av, cv, hB, x1, x2, x3, x4, s1, s2, r1, r2⟩ := (HO.out.below hbl) k o hg
      have hnr : n0 ≤ wr.heap.size := Nat.le_trans hn0 hbl.size
      have s1' := s1.more hnr
      have s2' := s2.more hnr
      have HS : Hid (∀ w', Off n0 wr w' → w'.cell? ⟨b, off + k * 4, none⟩ = some (.int .i64 o.what) ∧ w'.cell? ⟨b, off + k * 4 + 1, none⟩ = some (.slice Ak o.key.length ck) ∧ w'.cell? ⟨b, off + k * 4 + 2, none⟩ = some (.slice Av o.val.length cv) ∧ w'.cell? ⟨Bx, 0, none⟩ = some (.pointer (some ⟨J, 0, none⟩))) := fun w' hof => by
        have hb := hof.below hnr
        exact ⟨by rw [hb.cell (p := ⟨b, off + k * 4, none⟩) hB]; exact x1, by rw [hb.cell (p := ⟨b, off + k * 4 + 1, none⟩) hB]; exact x2, by rw [hb.cell (p := ⟨b, off + k * 4 + 2, none⟩) hB]; exact x3, ((HB.out.off HR.out.2.2).off hof).cell⟩
      have KP := Lib.hid (putJC n0 wr.drew J hs1 cur (HR.out.1.on (Below.refl _ _).drew) (by omega) Ak o.key ck Av o.val cv (s1'.on (Below.refl _ _).drew) (s2'.on (Below.refl _ _).drew))
      have KD := Lib.hid (delJC n0 wr.drew J hs1 cur (HR.out.1.on (Below.refl _ _).drew) (by omega) Ak o.key ck (s1'.on (Below.refl _ _).drew))
      unfold PutJ at KP
      clear s1 s2 s1' s2' x4 r2 hg r1 hbl
      cases hq : (bits BinOp.and IntKind.i64 o.what 1 == 0) with
      | true =>
        go_wp2_with fail
        refine wp_region_held_drew (S := fun w' => w'.cell? ⟨b, off + k * 4, none⟩ = some (.int .i64 o.what) ∧ w'.cell? ⟨b, off + k * 4 + 1, none⟩ = some (.slice Ak o.key.length ck) ∧ w'.cell? ⟨b, off + k * 4 + 2, none⟩ = some (.slice Av o.val.length cv) ∧ w'.cell? ⟨Bx, 0, none⟩ = some (.pointer (some ⟨J, 0, none⟩))) (by kernel_rfl) (HS.out _ (.of (Below.refl _ _).drew)) (fun hHeld => ?_)
        refine wpAnyH_take (i := 0) (v := ?vp1) rfl (by kernel_rfl) (by kernel_rfl) (by kernel_rfl) (fun _ _ _ h => h) (Or.inl ⟨by kernel_rfl, ?yp1⟩) (by assumption) ?rp1
        case yp1 => (intro w hSw; (try dsimp only at hSw); obtain ⟨s1, s2, s3, s4⟩ := hSw; go_simp; (try with_reducible rfl))
        try simp only [Act.put, List.getElem_toArray, List.getElem_cons_zero, List.getElem_cons_succ, List.setIfInBounds_toArray, List.set_cons_zero, List.set_cons_succ]
        refine wpAnyH_take (i := 1) (v := ?vp2) rfl (by kernel_rfl) (by kernel_rfl) (by kernel_rfl) (fun _ _ _ h => h) (Or.inl ⟨by kernel_rfl, ?yp2⟩) (by assumption) ?rp2
        case yp2 => (intro w hSw; (try dsimp only at hSw); obtain ⟨s1, s2, s3, s4⟩ := hSw; go_simp; (try with_reducible rfl))
        try simp only [Act.put, List.getElem_toArray, List.getElem_cons_zero, List.getElem_cons_succ, List.setIfInBounds_toArray, List.set_cons_zero, List.set_cons_succ]
        refine wpAnyH_take (i := 2) (v := ?vp3) rfl (by kernel_rfl) (by kernel_rfl) (by kernel_rfl) (fun _ _ _ h => h) (Or.inl ⟨by kernel_rfl, ?yp3⟩) (by assumption) ?rp3
        case yp3 => (intro w hSw; (try dsimp only at hSw); obtain ⟨s1, s2, s3, s4⟩ := hSw; go_simp; (try with_reducible rfl))
        try simp only [Act.put, List.getElem_toArray, List.getElem_cons_zero, List.getElem_cons_succ, List.setIfInBounds_toArray, List.set_cons_zero, List.set_cons_succ]
        refine wpAnyH_take (i := 3) (v := ?vp4) rfl (by kernel_rfl) (by kernel_rfl) (by kernel_rfl) (fun _ _ _ h => h) (Or.inl ⟨by kernel_rfl, ?yp4⟩) (by assumption) ?rp4
        case yp4 => (intro w hSw; (try dsimp only at hSw); obtain ⟨s1, s2, s3, s4⟩ := hSw; go_simp; (try with_reducible rfl))
        try simp only [Act.put, List.getElem_toArray, List.getElem_cons_zero, List.getElem_cons_succ, List.setIfInBounds_toArray, List.set_cons_zero, List.set_cons_succ]
        refine wpAnyH_take (i := 4) (v := ?vp5) rfl (by kernel_rfl) (by kernel_rfl) (by kernel_rfl) (fun _ _ _ h => h) (Or.inl ⟨by kernel_rfl, ?yp5⟩) (by assumption) ?rp5
        case yp5 => (intro w hSw; (try dsimp only at hSw); obtain ⟨s1, s2, s3, s4⟩ := hSw; go_simp; (try with_reducible rfl))
        try simp only [Act.put, List.getElem_toArray, List.getElem_cons_zero, List.getElem_cons_succ, List.setIfInBounds_toArray, List.set_cons_zero, List.set_cons_succ]
        refine wpAnyH_take (i := 5) (v := ?vp6) rfl (by kernel_rfl) (by kernel_rfl) (by kernel_rfl) (fun _ _ _ h => h) (Or.inl ⟨by kernel_rfl, ?yp6⟩) (by assumption) ?rp6
        case yp6 => (intro w hSw; (try dsimp only at hSw); obtain ⟨s1, s2, s3, s4⟩ := hSw; go_simp; (try with_reducible rfl))
        try simp only [Act.put, List.getElem_toArray, List.getElem_cons_zero, List.getElem_cons_succ, List.setIfInBounds_toArray, List.set_cons_zero, List.set_cons_succ]
        refine wpAnyH_take (i := 6) (v := ?vp7) rfl (by kernel_rfl) (by kernel_rfl) (by kernel_rfl) (fun _ _ _ h => h) (Or.inl ⟨by kernel_rfl, ?yp7⟩) (by assumption) ?rp7
        case yp7 => (intro w hSw; (try dsimp only at hSw); obtain ⟨s1, s2, s3, s4⟩ := hSw; go_simp; (try with_reducible rfl))
        try simp only [Act.put, List.getElem_toArray, List.getElem_cons_zero, List.getElem_cons_succ, List.setIfInBounds_toArray, List.set_cons_zero, List.set_cons_succ]
        refine wpAnyH_take (i := 7) (v := ?vp8) rfl (by kernel_rfl) (by kernel_rfl) (by kernel_rfl) (fun _ _ _ h => h) (Or.inl ⟨by kernel_rfl, ?yp8⟩) (by assumption) ?rp8
        case yp8 => (intro w hSw; (try dsimp only at hSw); obtain ⟨s1, s2, s3, s4⟩ := hSw; go_simp; (try with_reducible rfl))
        try simp only [Act.put, List.getElem_toArray, List.getElem_cons_zero, List.getElem_cons_succ, List.setIfInBounds_toArray, List.set_cons_zero, List.set_cons_succ]
        refine wpAnyH_take (i := 8) (v := ?vp9) rfl (by kernel_rfl) (by kernel_rfl) (by kernel_rfl) (fun _ _ _ h => h) (Or.inl ⟨by kernel_rfl, ?yp9⟩) (by assumption) ?rp9
        case yp9 => (intro w hSw; (try dsimp only at hSw); obtain ⟨s1, s2, s3, s4⟩ := hSw; go_simp; (try with_reducible rfl))
        try simp only [Act.put, List.getElem_toArray, List.getElem_cons_zero, List.getElem_cons_succ, List.setIfInBounds_toArray, List.set_cons_zero, List.set_cons_succ]
        refine wpAnyH_take (i := 9) (v := ?vp10) rfl (by kernel_rfl) (by kernel_rfl) (by kernel_rfl) (fun _ _ _ h => h) (Or.inl ⟨by kernel_rfl, ?yp10⟩) (by assumption) ?rp10
        case yp10 => (intro w hSw; (try dsimp only at hSw); obtain ⟨s1, s2, s3, s4⟩ := hSw; go_simp; (try with_reducible rfl))
        try simp only [Act.put, List.getElem_toArray, List.getElem_cons_zero, List.getElem_cons_succ, List.setIfInBounds_toArray, List.set_cons_zero, List.set_cons_succ]
        refine wpAnyH_take (i := 10) (v := ?vp11) rfl (by kernel_rfl) (by kernel_rfl) (by kernel_rfl) (fun _ _ _ h => h) (Or.inl ⟨by kernel_rfl, ?yp11⟩) (by assumption) ?rp11
        case yp11 => (intro w hSw; (try dsimp only at hSw); obtain ⟨s1, s2, s3, s4⟩ := hSw; go_simp; (try with_reducible rfl))
        try simp only [Act.put, List.getElem_toArray, List.getElem_cons_zero, List.getElem_cons_succ, List.setIfInBounds_toArray, List.set_cons_zero, List.set_cons_succ]
        refine wpAnyH_ready (rs := [11]) (by kernel_rfl) (by simp) ?_
        refine AllReadyH.cons rfl (fun K hK => ?_) AllReadyH.nil
        go_simp
        (with_reducible refine KP.out.mono ?_)
        rintro e w4 ⟨rfl, h1, h2⟩
        have H4 : Hid (Off n0 wr w4 ∧ ∃ hs' cur', Jr n0 w4 J hs' cur' ∧ (hs1 ++ [cur]) <+: (hs' ++ [cur']) ∧ hs'.length ≤ hs1.length + 1) := by
          by_cases hE : putE cur o.key o.val = 0
          · exact ⟨(Off.of (Below.refl _ _).drew).trans (h1 hE).1, _, _, (h1 hE).2.2, List.prefix_append _ _, by simp⟩
          · exact ⟨(Off.of (Below.refl _ _).drew).trans (.of (h2 hE)), _, _, (HR.out.1.on (Below.refl _ _).drew).on (h2 hE), List.prefix_refl _, by omega⟩
        clear h1 h2
        go_wp2_with fail
        refine hK.out _ _ (HS.out _ H4.out.1) (fun hHeld => ?_)
        clear hK K
        refine wpAnyH_done (by kernel_rfl) ?_ _
        have hq' := hq
        clear HS KP KD hHeld
        go_wp2
        go_roundw
        case rel =>
          obtain ⟨o4, hs', cur', j4, p4, l4⟩ := H4.out
          exact ⟨k + 1, hs', cur', by omega, by go_num, by omega, j4, HR.out.2.1.trans p4, HR.out.2.2.trans o4⟩
        case measure => simp [intOf]; omega
      | false =>
        go_wp2_with fail
        refine wp_region_held_drew (S := fun w' => w'.cell? ⟨b, off + k * 4, none⟩ = some (.int .i64 o.what) ∧ w'.cell? ⟨b, off + k * 4 + 1, none⟩ = some (.slice Ak o.key.length ck) ∧ w'.cell? ⟨b, off + k * 4 + 2, none⟩ = some (.slice Av o.val.length cv) ∧ w'.cell? ⟨Bx, 0, none⟩ = some (.pointer (some ⟨J, 0, none⟩))) (by kernel_rfl) (HS.out _ (.of (Below.refl _ _).drew)) (fun hHeld => ?_)
        refine wpAnyH_take (i := 0) (v := ?vx1) rfl (by kernel_rfl) (by kernel_rfl) (by kernel_rfl) (fun _ _ _ h => h) (Or.inl ⟨by kernel_rfl, ?yx1⟩) (by assumption) ?rx1
        case yx1 => (intro w hSw; (try dsimp only at hSw); obtain ⟨s1, s2, s3, s4⟩ := hSw; go_simp; (try with_reducible rfl))
        try simp only [Act.put, List.getElem_toArray, List.getElem_cons_zero, List.getElem_cons_succ, List.setIfInBounds_toArray, List.set_cons_zero, List.set_cons_succ]
        refine wpAnyH_take (i := 1) (v := ?vx2) rfl (by kernel_rfl) (by kernel_rfl) (by kernel_rfl) (fun _ _ _ h => h) (Or.inl ⟨by kernel_rfl, ?yx2⟩) (by assumption) ?rx2
        case yx2 => (intro w hSw; (try dsimp only at hSw); obtain ⟨s1, s2, s3, s4⟩ := hSw; go_simp; (try with_reducible rfl))
        try simp only [Act.put, List.getElem_toArray, List.getElem_cons_zero, List.getElem_cons_succ, List.setIfInBounds_toArray, List.set_cons_zero, List.set_cons_succ]
        refine wpAnyH_take (i := 2) (v := ?vx3) rfl (by kernel_rfl) (by kernel_rfl) (by kernel_rfl) (fun _ _ _ h => h) (Or.inl ⟨by kernel_rfl, ?yx3⟩) (by assumption) ?rx3
        case yx3 => (intro w hSw; (try dsimp only at hSw); obtain ⟨s1, s2, s3, s4⟩ := hSw; go_simp; (try with_reducible rfl))
        try simp only [Act.put, List.getElem_toArray, List.getElem_cons_zero, List.getElem_cons_succ, List.setIfInBounds_toArray, List.set_cons_zero, List.set_cons_succ]
        refine wpAnyH_take (i := 3) (v := ?vx4) rfl (by kernel_rfl) (by kernel_rfl) (by kernel_rfl) (fun _ _ _ h => h) (Or.inl ⟨by kernel_rfl, ?yx4⟩) (by assumption) ?rx4
        case yx4 => (intro w hSw; (try dsimp only at hSw); obtain ⟨s1, s2, s3, s4⟩ := hSw; go_simp; (try with_reducible rfl))
        try simp only [Act.put, List.getElem_toArray, List.getElem_cons_zero, List.getElem_cons_succ, List.setIfInBounds_toArray, List.set_cons_zero, List.set_cons_succ]
        refine wpAnyH_take (i := 4) (v := ?vx5) rfl (by kernel_rfl) (by kernel_rfl) (by kernel_rfl) (fun _ _ _ h => h) (Or.inl ⟨by kernel_rfl, ?yx5⟩) (by assumption) ?rx5
        case yx5 => (intro w hSw; (try dsimp only at hSw); obtain ⟨s1, s2, s3, s4⟩ := hSw; go_simp; (try with_reducible rfl))
        try simp only [Act.put, List.getElem_toArray, List.getElem_cons_zero, List.getElem_cons_succ, List.setIfInBounds_toArray, List.set_cons_zero, List.set_cons_succ]
        refine wpAnyH_take (i := 5) (v := ?vx6) rfl (by kernel_rfl) (by kernel_rfl) (by kernel_rfl) (fun _ _ _ h => h) (Or.inl ⟨by kernel_rfl, ?yx6⟩) (by assumption) ?rx6
        case yx6 => (intro w hSw; (try dsimp only at hSw); obtain ⟨s1, s2, s3, s4⟩ := hSw; go_simp; (try with_reducible rfl))
        try simp only [Act.put, List.getElem_toArray, List.getElem_cons_zero, List.getElem_cons_succ, List.setIfInBounds_toArray, List.set_cons_zero, List.set_cons_succ]
        refine wpAnyH_ready (rs := [6]) (by kernel_rfl) (by simp) ?_
        refine AllReadyH.cons rfl (fun K hK => ?_) AllReadyH.nil
        go_simp
        (with_reducible refine KD.out.mono ?_)
        rintro e w4 ⟨rfl, hch⟩
        have H4 : Hid (Off n0 wr w4 ∧ ∃ hs' cur', Jr n0 w4 J hs' cur' ∧ (hs1 ++ [cur]) <+: (hs' ++ [cur']) ∧ hs'.length ≤ hs1.length + 1) := ⟨(Off.of (Below.refl _ _).drew).trans hch.1, _, _, hch.2.2, List.prefix_append _ _, by simp⟩
        clear hch
        go_wp2_with fail
        refine hK.out _ _ (HS.out _ H4.out.1) (fun hHeld => ?_)
        clear hK K
        refine wpAnyH_done (by kernel_rfl) ?_ _
        have hq' := hq
        clear HS KP KD hHeld
        go_wp2
        go_roundw
        case rel =>
          obtain ⟨o4, hs', cur', j4, p4, l4⟩ := H4.out
          exact ⟨k + 1, hs', cur', by omega, by go_num, by omega, j4, HR.out.2.1.trans p4, HR.out.2.2.trans o4⟩
        case measure => simp [intOf]; omega
    · obtain rfl : k = ops.length := by omega
      go_wp2
      go_end0
      exact ⟨rfl, HR.out.2.2, hs1, cur, HR.out.1, HR.out.2.1, hle⟩
end Go.Proofs.Ytncbbjodianmoaa
