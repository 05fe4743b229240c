/- The walk of JournalGets. Conditions: what came in lies in memory. -/
import Derived.Test.YtncbbjodianmoaaWc
namespace Go.Proofs.Ytncbbjodianmoaa
open Go.RowKit
set_option linter.unusedSimpArgs false
set_option linter.unusedVariables false

theorem get_none {l : List PR} {k : List Int} (h : hasM l k = false) : getM l k = [] := by
  have hf : ¬ fnd k l < l.length := fun h' => by rw [hasM_iff.2 h'] at h; cases h
  unfold getM
  rw [List.getD, List.getElem?_eq_none (by omega)]
  rfl
theorem del_self {l : List PR} (h : RightM l) (k : List Int) : hasM (delM l k) k = false ∧ getM (delM l k) k = [] :=
  find_not fun v' hv' => ((mem_delM h.2.1 k _).1 hv').2 rfl
theorem del_other {l : List PR} (h : RightM l) {k o : List Int} (ho : o ≠ k) : hasM (delM l k) o = hasM l o ∧ getM (delM l k) o = getM l o := by
  have := find_same h.2.1 (srt_delM h.2.1 k) (k := o) fun w => by
    rw [mem_delM h.2.1]
    exact ⟨fun hx => ⟨hx, ho⟩, fun hx => hx.1⟩
  exact ⟨this.1.symm, this.2.symm⟩

set_option maxRecDepth 100000 in
set_option maxHeartbeats 6400000 in
theorem getsC (W : World) (Ao : Option Addr) (ops : List OpT) (co : Nat) (ho : OpsB W W.heap.size Ao ops) (hco : ops.length ≤ co) (hmo : co ≤ maxLen) (Ak : Option Addr) (key : List Int) (ckk : Nat) (hkey : SB W W.heap.size (.slice Ak key.length ckk) key) :
    Calls Try.prog 7 #[.slice Ao ops.length co, .slice Ak key.length ckk] W fun e w' => e = .returned (.bool true) ∧ Below W.heap.size W w' := by
  have HO := Lib.hid ho
  have HKEY := Lib.hid hkey
  have K0 := Lib.hid (headC W)
  have K1 : Hid (∀ w1, Below W.heap.size W w1 → Calls Try.prog 9 #[.slice none 0 0] w1 (NewJ w1 [])) := fun w1 _ => newC none [] 0 w1 (Prs.nothing _ _) (Nat.le_refl _) (Nat.zero_le _) (by simp) right_nil
  clear ho hkey
  unfold maxLen at hmo
  by_cases hg : 300 < ops.length
  · go_enter Try.func7, Try.ntmps7
    go_wp2_with fail
    (with_reducible refine K0.out.mono ?_)
    rintro e w1 ⟨rfl, hb1⟩
    have HB1 := Lib.hid hb1
    have K1 := Lib.hid (K1.out w1 hb1)
    clear hb1
    go_wp2_with fail
    (with_reducible refine K1.out.mono ?_)
    rintro e w2 h
    obtain ⟨J, rfl, hJ, hj, hb2⟩ := h.jr (n0 := W.heap.size) right_nil HB1.out.size
    have HB2 := Lib.hid (HB1.out.trans (hb2.mono HB1.out.size))
    clear h hj hb2
    go_wp2_with (go_at_call 11; refine (greatC _ _ _ _ hg).mono ?_; rintro e w3 ⟨rfl, rfl⟩)
    go_ret
    exact ⟨rfl, HB2.out⟩
  · have hs : ops.length ≤ 300 := by omega
    clear hg
    go_enter Try.func7, Try.ntmps7
    go_wp2_with fail
    (with_reducible refine K0.out.mono ?_)
    rintro e w1 ⟨rfl, hb1⟩
    have HB1 := Lib.hid hb1
    have K1 := Lib.hid (K1.out w1 hb1)
    clear hb1
    go_wp2_with fail
    (with_reducible refine K1.out.mono ?_)
    rintro e w2 h
    obtain ⟨J, rfl, hJ, hj, hb2⟩ := h.jr (n0 := W.heap.size) right_nil HB1.out.size
    have HB2 := Lib.hid (HB1.out.trans (hb2.mono HB1.out.size))
    have HJ := Lib.hid hj
    clear h hj hb2 K0 K1 HB1
    go_wp2_with (go_at_call 11; refine (smallC _ _ _ _ hs).mono ?_; rintro e w3 ⟨rfl, rfl⟩)
    go_loopw [7, 8, 9] (fun is want i wr => ∃ (k : Nat) (hs : List (List PR)) (cur : List PR) (s : ByteArray), k ≤ ops.length ∧ i = .int .i64 k ∧ is = .bool (hasM cur key) ∧ want = .string s ∧ hs.length ≤ k ∧ Hid (Jr W.heap.size wr J hs cur ∧ Below W.heap.size W wr ∧ (hasM cur key = true → s = strOfNums (getM cur key)))) (fun _ _ i _ => ops.length - (intOf i).toNat)
    case atStart => exact ⟨0, [], [], .empty, Nat.zero_le _, rfl, rfl, rfl, Nat.le_refl _, HJ.out, HB2.out, fun h => by cases h⟩
    case round =>
      clear HJ HB2
      obtain ⟨k, hs1, cur, s, hk, rfl, rfl, rfl, hle, HR⟩ := hrel
      by_cases hlt : k < ops.length
      · have hg : ops[k]? = some ops[k] := List.getElem?_eq_getElem hlt
        generalize ops[k] = o at hg
        obtain ⟨b, off, rfl, Ao', ck, Av, cv, hB, x1, x2, x3, x4, s1, s2, r1, r2⟩ := (HO.out.below HR.out.2.1) k o hg
        have s1' := s1.more (HR.out.2.1.size)
        have s2' := s2.more (HR.out.2.1.size)
        have HS : Hid (∀ w', Below W.heap.size wr w' → w'.cell? ⟨b, off + k * 4, none⟩ = some (.int .i64 o.what) ∧ w'.cell? ⟨b, off + k * 4 + 1, none⟩ = some (.slice Ao' o.key.length ck) ∧ w'.cell? ⟨b, off + k * 4 + 2, none⟩ = some (.slice Av o.val.length cv)) := fun w' hb =>
          ⟨by rw [hb.cell (p := ⟨b, off + k * 4, none⟩) hB]; exact x1, by rw [hb.cell (p := ⟨b, off + k * 4 + 1, none⟩) hB]; exact x2, by rw [hb.cell (p := ⟨b, off + k * 4 + 2, none⟩) hB]; exact x3⟩
        have HSV : Hid (∀ w', Below W.heap.size wr w' → (convert 30 9 (.slice Av o.val.length cv)).run Try.prog w' = .ok (.string (strOfNums o.val)) w') := fun w' hb => (s2.below hb).str
        have KP : Hid (∀ w', Below wr.heap.size wr w' → Calls Try.prog 12 #[.pointer (some ⟨J, 0, none⟩), .slice Ao' o.key.length ck, .slice Av o.val.length cv] w' (PutJ W.heap.size J hs1 cur o.key o.val w')) := fun w' hb => putJC W.heap.size w' J hs1 cur (HR.out.1.on hb) (by omega) Ao' o.key ck Av o.val cv (s1'.on hb) (s2'.on hb)
        have KD : Hid (∀ w', Below wr.heap.size wr w' → Calls Try.prog 14 #[.pointer (some ⟨J, 0, none⟩), .slice Ao' o.key.length ck] w' fun e w'' => e = .returned (.tuple #[]) ∧ Chd W.heap.size J w' (hs1 ++ [cur]) (delM cur o.key) w'') := fun w' hb => delJC W.heap.size w' J hs1 cur (HR.out.1.on hb) (by omega) Ao' o.key ck (s1'.on hb)
        have d1 := fun nq => (s1'.drewN nq).str
        have d2 := fun nq => ((HKEY.out.on (HR.out.2.1)).drewN nq).str
        have hse := str_eq s1'.byt HKEY.out.byt
        have hl : (hs1 ++ [cur]).length = hs1.length + 1 := by simp
        have HRC : Hid (RightM cur) := HR.out.1.cur
        have HGET : Hid (∀ w' hs' cur', Jr W.heap.size w' J hs' cur' → Below W.heap.size W w' → Calls Try.prog 18 #[.pointer (some ⟨J, 0, none⟩), .slice Ak key.length ckk] w' (GotO w' (getM cur' key) (hasM cur' key))) := fun w' hs' cur' hj hb => jgetC _ _ J _ _ hj Ak key ckk (HKEY.out.on hb)
        clear s1 s2 s1' s2' x1 x3 x4 r2 r1 hg
        generalize hh : hasM cur key = isv at *
        cases isv with
        | true =>
          obtain ⟨gv, hgv⟩ : ∃ gv, getM cur key = gv := ⟨_, rfl⟩
          have HGV := Lib.hid hgv
          have HH := Lib.hid hh
          clear hgv hh
          by_cases hown : o.key = key
          · skip
            have he : o.key = key := by assumption
            have hd : ((strOfNums o.key).toList == (strOfNums key).toList) = true := by rw [hse]; simpa using he
            have HE : Hid (o.key = key) := he
            clear he hse hown
            generalize strOfNums o.key = ko at *
            generalize strOfNums key = kt at *
            go_wp2_with fail
            go_quiet (fail)
            have HBQ : Hid (Below wr.heap.size wr (wr.drewN nq)) := below_drewN (Below.refl _ _) _
            clear d1 d2 hd x2
            generalize wr.drewN nq = wq at *
            have hx2 := (HS.out wq (HBQ.out.mono HR.out.2.1.size)).1
            cases hq : (bits BinOp.and IntKind.i64 o.what 1 == 0) with
            | true =>
              go_wp2_with fail
              have KPq := Lib.hid (KP.out wq.drew (HBQ.out.drew))
              have HCq := Lib.hid (HS.out wq.drew ((HBQ.out.drew).mono HR.out.2.1.size))
              refine wp_region_held_drew (S := (fun w' => w'.cell? ⟨b, off + k * 4, none⟩ = some (.int .i64 o.what) ∧ w'.cell? ⟨b, off + k * 4 + 1, none⟩ = some (.slice Ao' o.key.length ck) ∧ w'.cell? ⟨b, off + k * 4 + 2, none⟩ = some (.slice Av o.val.length cv))) (by kernel_rfl) HCq.out (fun hHeld => ?_)
              refine wpAnyH_take (i := 0) (v := ?vp14et1) rfl (by kernel_rfl) (by kernel_rfl) (by kernel_rfl) (fun _ _ _ h => h) (Or.inl ⟨by kernel_rfl, ?yp14et1⟩) (by assumption) ?rp14et1
              case yp14et1 => (intro w hSw; (try dsimp only at hSw); obtain ⟨s1, s2, s3⟩ := hSw; go_simp; (try with_reducible rfl))
              try simp only [Act.put, List.getElem_toArray, List.getElem_cons_zero, List.getElem_cons_succ, List.setIfInBounds_toArray, List.set_cons_zero, List.set_cons_succ]
              refine wpAnyH_take (i := 1) (v := ?vp14et2) rfl (by kernel_rfl) (by kernel_rfl) (by kernel_rfl) (fun _ _ _ h => h) (Or.inl ⟨by kernel_rfl, ?yp14et2⟩) (by assumption) ?rp14et2
              case yp14et2 => (intro w hSw; (try dsimp only at hSw); obtain ⟨s1, s2, s3⟩ := hSw; go_simp; (try with_reducible rfl))
              try simp only [Act.put, List.getElem_toArray, List.getElem_cons_zero, List.getElem_cons_succ, List.setIfInBounds_toArray, List.set_cons_zero, List.set_cons_succ]
              refine wpAnyH_take (i := 2) (v := ?vp14et3) rfl (by kernel_rfl) (by kernel_rfl) (by kernel_rfl) (fun _ _ _ h => h) (Or.inl ⟨by kernel_rfl, ?yp14et3⟩) (by assumption) ?rp14et3
              case yp14et3 => (intro w hSw; (try dsimp only at hSw); obtain ⟨s1, s2, s3⟩ := hSw; go_simp; (try with_reducible rfl))
              try simp only [Act.put, List.getElem_toArray, List.getElem_cons_zero, List.getElem_cons_succ, List.setIfInBounds_toArray, List.set_cons_zero, List.set_cons_succ]
              refine wpAnyH_take (i := 3) (v := ?vp14et4) rfl (by kernel_rfl) (by kernel_rfl) (by kernel_rfl) (fun _ _ _ h => h) (Or.inl ⟨by kernel_rfl, ?yp14et4⟩) (by assumption) ?rp14et4
              case yp14et4 => (intro w hSw; (try dsimp only at hSw); obtain ⟨s1, s2, s3⟩ := hSw; go_simp; (try with_reducible rfl))
              try simp only [Act.put, List.getElem_toArray, List.getElem_cons_zero, List.getElem_cons_succ, List.setIfInBounds_toArray, List.set_cons_zero, List.set_cons_succ]
              refine wpAnyH_take (i := 4) (v := ?vp14et5) rfl (by kernel_rfl) (by kernel_rfl) (by kernel_rfl) (fun _ _ _ h => h) (Or.inl ⟨by kernel_rfl, ?yp14et5⟩) (by assumption) ?rp14et5
              case yp14et5 => (intro w hSw; (try dsimp only at hSw); obtain ⟨s1, s2, s3⟩ := hSw; go_simp; (try with_reducible rfl))
              try simp only [Act.put, List.getElem_toArray, List.getElem_cons_zero, List.getElem_cons_succ, List.setIfInBounds_toArray, List.set_cons_zero, List.set_cons_succ]
              refine wpAnyH_take (i := 5) (v := ?vp14et6) rfl (by kernel_rfl) (by kernel_rfl) (by kernel_rfl) (fun _ _ _ h => h) (Or.inl ⟨by kernel_rfl, ?yp14et6⟩) (by assumption) ?rp14et6
              case yp14et6 => (intro w hSw; (try dsimp only at hSw); obtain ⟨s1, s2, s3⟩ := hSw; go_simp; (try with_reducible rfl))
              try simp only [Act.put, List.getElem_toArray, List.getElem_cons_zero, List.getElem_cons_succ, List.setIfInBounds_toArray, List.set_cons_zero, List.set_cons_succ]
              refine wpAnyH_take (i := 6) (v := ?vp14et7) rfl (by kernel_rfl) (by kernel_rfl) (by kernel_rfl) (fun _ _ _ h => h) (Or.inl ⟨by kernel_rfl, ?yp14et7⟩) (by assumption) ?rp14et7
              case yp14et7 => (intro w hSw; (try dsimp only at hSw); obtain ⟨s1, s2, s3⟩ := hSw; go_simp; (try with_reducible rfl))
              try simp only [Act.put, List.getElem_toArray, List.getElem_cons_zero, List.getElem_cons_succ, List.setIfInBounds_toArray, List.set_cons_zero, List.set_cons_succ]
              refine wpAnyH_take (i := 7) (v := ?vp14et8) rfl (by kernel_rfl) (by kernel_rfl) (by kernel_rfl) (fun _ _ _ h => h) (Or.inl ⟨by kernel_rfl, ?yp14et8⟩) (by assumption) ?rp14et8
              case yp14et8 => (intro w hSw; (try dsimp only at hSw); obtain ⟨s1, s2, s3⟩ := hSw; go_simp; (try with_reducible rfl))
              try simp only [Act.put, List.getElem_toArray, List.getElem_cons_zero, List.getElem_cons_succ, List.setIfInBounds_toArray, List.set_cons_zero, List.set_cons_succ]
              refine wpAnyH_take (i := 8) (v := ?vp14et9) rfl (by kernel_rfl) (by kernel_rfl) (by kernel_rfl) (fun _ _ _ h => h) (Or.inl ⟨by kernel_rfl, ?yp14et9⟩) (by assumption) ?rp14et9
              case yp14et9 => (intro w hSw; (try dsimp only at hSw); obtain ⟨s1, s2, s3⟩ := hSw; go_simp; (try with_reducible rfl))
              try simp only [Act.put, List.getElem_toArray, List.getElem_cons_zero, List.getElem_cons_succ, List.setIfInBounds_toArray, List.set_cons_zero, List.set_cons_succ]
              refine wpAnyH_take (i := 9) (v := ?vp14et10) rfl (by kernel_rfl) (by kernel_rfl) (by kernel_rfl) (fun _ _ _ h => h) (Or.inl ⟨by kernel_rfl, ?yp14et10⟩) (by assumption) ?rp14et10
              case yp14et10 => (intro w hSw; (try dsimp only at hSw); obtain ⟨s1, s2, s3⟩ := hSw; go_simp; (try with_reducible rfl))
              try simp only [Act.put, List.getElem_toArray, List.getElem_cons_zero, List.getElem_cons_succ, List.setIfInBounds_toArray, List.set_cons_zero, List.set_cons_succ]
              refine wpAnyH_take (i := 10) (v := ?vp14et11) rfl (by kernel_rfl) (by kernel_rfl) (by kernel_rfl) (fun _ _ _ h => h) (Or.inl ⟨by kernel_rfl, ?yp14et11⟩) (by assumption) ?rp14et11
              case yp14et11 => (intro w hSw; (try dsimp only at hSw); obtain ⟨s1, s2, s3⟩ := hSw; go_simp; (try with_reducible rfl))
              try simp only [Act.put, List.getElem_toArray, List.getElem_cons_zero, List.getElem_cons_succ, List.setIfInBounds_toArray, List.set_cons_zero, List.set_cons_succ]
              refine wpAnyH_ready (rs := [11]) (by kernel_rfl) (by simp) ?_
              refine AllReadyH.cons rfl (fun K hK => ?_) AllReadyH.nil
              go_simp
              (with_reducible refine KPq.out.mono ?_)
              rintro e w4 ⟨rfl, h1, h2⟩
              have HBR : Hid (Below W.heap.size wr w4) := by
                by_cases hE : putE cur o.key o.val = 0
                · exact (HBQ.out.drew.mono HR.out.2.1.size).trans ((h1 hE).1.below (Nat.le_trans HR.out.2.1.size (HBQ.out.drew).size))
                · exact ((HBQ.out.drew).trans ((h2 hE).mono (HBQ.out.drew).size)).mono HR.out.2.1.size
              have HPJ : Hid ((putE cur o.key o.val = 0 → Jr W.heap.size w4 J (hs1 ++ [cur]) (putM cur o.key o.val)) ∧ (putE cur o.key o.val ≠ 0 → Jr W.heap.size w4 J hs1 cur)) := ⟨fun h => (h1 h).2.2, fun h => (HR.out.1.on HBQ.out.drew).on (h2 h)⟩
              clear h1 h2
              by_cases hE : putE cur o.key o.val = 0
              · skip
                have HJ4 : Hid (Jr W.heap.size w4 J (hs1 ++ [cur]) (putM cur o.key o.val) ∧ Below W.heap.size W w4) := ⟨HPJ.out.1 hE, HR.out.2.1.trans HBR.out⟩
                have hG : getM (putM cur o.key o.val) key = o.val ∧ hasM (putM cur o.key o.val) key = true := by have := puts_plain HRC.out o.key o.val; rw [HE.out] at this ⊢; exact ⟨this.2.1, this.1⟩
                rw [hE]
                have HG1 := Lib.hid hG
                clear hG
                have hx4 := (HS.out w4 HBR.out).2.2
                have hsv4 := HSV.out w4 HBR.out
                have HCw := Lib.hid (HS.out w4 HBR.out)
                clear HPJ HBR KPq HCq
                go_wp2_with fail
                refine hK.out _ _ HCw.out (fun hHeld => ?_)
                clear hK K
                refine wpAnyH_take (i := 12) (v := ?vq14ety1) rfl (by kernel_rfl) (by kernel_rfl) (by kernel_rfl) (fun _ _ _ h => h) (Or.inl ⟨by kernel_rfl, ?yq14ety1⟩) (by assumption) ?rq14ety1
                case yq14ety1 => (intro w hSw; (try dsimp only at hSw); obtain ⟨s1, s2, s3⟩ := hSw; go_simp; (try with_reducible rfl))
                try simp only [Act.put, List.getElem_toArray, List.getElem_cons_zero, List.getElem_cons_succ, List.setIfInBounds_toArray, List.set_cons_zero, List.set_cons_succ]
                refine wpAnyH_take (i := 13) (v := ?vq14ety2) rfl (by kernel_rfl) (by kernel_rfl) (by kernel_rfl) (fun _ _ _ h => h) (Or.inl ⟨by kernel_rfl, ?yq14ety2⟩) (by assumption) ?rq14ety2
                case yq14ety2 => (intro w hSw; (try dsimp only at hSw); obtain ⟨s1, s2, s3⟩ := hSw; go_simp; (try with_reducible rfl))
                try simp only [Act.put, List.getElem_toArray, List.getElem_cons_zero, List.getElem_cons_succ, List.setIfInBounds_toArray, List.set_cons_zero, List.set_cons_succ]
                refine wpAnyH_take (i := 14) (v := ?vq14ety3) rfl (by kernel_rfl) (by kernel_rfl) (by kernel_rfl) (fun _ _ _ h => h) (Or.inl ⟨by kernel_rfl, ?yq14ety3⟩) (by assumption) ?rq14ety3
                case yq14ety3 => (intro w hSw; (try dsimp only at hSw); obtain ⟨s1, s2, s3⟩ := hSw; go_simp; (try with_reducible rfl))
                try simp only [Act.put, List.getElem_toArray, List.getElem_cons_zero, List.getElem_cons_succ, List.setIfInBounds_toArray, List.set_cons_zero, List.set_cons_succ]
                refine wpAnyH_take (i := 15) (v := ?vq14ety4) rfl (by kernel_rfl) (by kernel_rfl) (by kernel_rfl) (fun _ _ _ h => h) (Or.inl ⟨by kernel_rfl, ?yq14ety4⟩) (by assumption) ?rq14ety4
                case yq14ety4 => (intro w hSw; (try dsimp only at hSw); obtain ⟨s1, s2, s3⟩ := hSw; go_simp; (try with_reducible rfl))
                try simp only [Act.put, List.getElem_toArray, List.getElem_cons_zero, List.getElem_cons_succ, List.setIfInBounds_toArray, List.set_cons_zero, List.set_cons_succ]
                refine wpAnyH_done (by kernel_rfl) ?_ _
                have HG := HG1
                have KG : Hid (Calls Try.prog 18 #[.pointer (some ⟨J, 0, none⟩), .slice Ak key.length ckk] w4 (GotO w4 o.val true)) := by have := HGET.out w4 _ _ HJ4.out.1 HJ4.out.2; rw [HG.out.1, HG.out.2] at this; exact this
                go_wp2_with fail
                (with_reducible refine KG.out.mono ?_)
                rintro e w5 ⟨V, rfl, v1, v2, v3⟩
                have HJ5 : Hid (Jr W.heap.size w5 J ((hs1 ++ [cur])) ((putM cur o.key o.val)) ∧ Below W.heap.size W w5) := ⟨HJ4.out.1.on v3, HJ4.out.2.trans (v3.mono HJ4.out.2.size)⟩
                have hsv := own_SB v1 v2
                have d5 := hsv.str
                obtain ⟨A5, c5, rfl, _⟩ := hsv
                clear v1 v2 v3 KG
                generalize hst : strOfNums o.val = st at *
                have HST := Lib.hid hst
                clear hst
                go_wp2
                go_roundw
                case rel => exact ⟨k + 1, (hs1 ++ [cur]), (putM cur o.key o.val), _, by omega, by go_num, by rw [HG.out.2], rfl, by first | omega | (rw [hl]; omega), HJ5.out.1, HJ5.out.2, fun h => by rw [HG.out.1]; exact HST.out.symm⟩
                case measure => simp [intOf]; omega
              · skip
                have hE' : (putE cur o.key o.val == 0) = false := by simpa using hE
                have HJ4 : Hid (Jr W.heap.size w4 J hs1 cur ∧ Below W.heap.size W w4) := ⟨HPJ.out.2 hE, HR.out.2.1.trans HBR.out⟩
                have hG : getM cur key = gv ∧ hasM cur key = true := ⟨HGV.out, HH.out⟩
                have HG1 := Lib.hid hG
                clear hG
                have hx4 := (HS.out w4 HBR.out).2.2
                have hsv4 := HSV.out w4 HBR.out
                have HCw := Lib.hid (HS.out w4 HBR.out)
                clear HPJ HBR KPq HCq
                generalize putE cur o.key o.val = E at *
                go_wp2_with fail
                refine hK.out _ _ HCw.out (fun hHeld => ?_)
                clear hK K
                refine wpAnyH_take (i := 12) (v := ?vq14etx1) rfl (by kernel_rfl) (by kernel_rfl) (by kernel_rfl) (fun _ _ _ h => h) (Or.inl ⟨by kernel_rfl, ?yq14etx1⟩) (by assumption) ?rq14etx1
                case yq14etx1 => (intro w hSw; (try dsimp only at hSw); obtain ⟨s1, s2, s3⟩ := hSw; go_simp; (try with_reducible rfl))
                try simp only [Act.put, List.getElem_toArray, List.getElem_cons_zero, List.getElem_cons_succ, List.setIfInBounds_toArray, List.set_cons_zero, List.set_cons_succ]
                refine wpAnyH_take (i := 13) (v := ?vq14etx2) rfl (by kernel_rfl) (by kernel_rfl) (by kernel_rfl) (fun _ _ _ h => h) (Or.inl ⟨by kernel_rfl, ?yq14etx2⟩) (by assumption) ?rq14etx2
                case yq14etx2 => (intro w hSw; (try dsimp only at hSw); obtain ⟨s1, s2, s3⟩ := hSw; go_simp; (try with_reducible rfl))
                try simp only [Act.put, List.getElem_toArray, List.getElem_cons_zero, List.getElem_cons_succ, List.setIfInBounds_toArray, List.set_cons_zero, List.set_cons_succ]
                refine wpAnyH_take (i := 14) (v := undef) rfl (by kernel_rfl) (by kernel_rfl) (by kernel_rfl) (fun _ _ _ h => h) (Or.inr ⟨by kernel_rfl, rfl⟩) (by assumption) ?rq14etx3
                try simp only [Act.put, List.getElem_toArray, List.getElem_cons_zero, List.getElem_cons_succ, List.setIfInBounds_toArray, List.set_cons_zero, List.set_cons_succ]
                refine wpAnyH_take (i := 15) (v := ?vq14etx4) rfl (by kernel_rfl) (by kernel_rfl) (by kernel_rfl) (fun _ _ _ h => h) (Or.inl ⟨by kernel_rfl, ?yq14etx4⟩) (by assumption) ?rq14etx4
                case yq14etx4 => (intro w hSw; (try dsimp only at hSw); obtain ⟨s1, s2, s3⟩ := hSw; go_simp; (try with_reducible rfl))
                try simp only [Act.put, List.getElem_toArray, List.getElem_cons_zero, List.getElem_cons_succ, List.setIfInBounds_toArray, List.set_cons_zero, List.set_cons_succ]
                refine wpAnyH_done (by kernel_rfl) ?_ _
                have HG := HG1
                have KG : Hid (Calls Try.prog 18 #[.pointer (some ⟨J, 0, none⟩), .slice Ak key.length ckk] w4 (GotO w4 gv true)) := by have := HGET.out w4 _ _ HJ4.out.1 HJ4.out.2; rw [HG.out.1, HG.out.2] at this; exact this
                go_wp2_with fail
                (with_reducible refine KG.out.mono ?_)
                rintro e w5 ⟨V, rfl, v1, v2, v3⟩
                have HJ5 : Hid (Jr W.heap.size w5 J (hs1) (cur) ∧ Below W.heap.size W w5) := ⟨HJ4.out.1.on v3, HJ4.out.2.trans (v3.mono HJ4.out.2.size)⟩
                have hsv := own_SB v1 v2
                have d5 := hsv.str
                obtain ⟨A5, c5, rfl, _⟩ := hsv
                clear v1 v2 v3 KG
                generalize hst : strOfNums gv = st at *
                have HST := Lib.hid hst
                clear hst
                have hsst : s = st := by have := HR.out.2.2 (by first | rfl | trivial); rw [HGV.out] at this; exact this.trans HST.out
                subst hsst
                go_wp2
                go_roundw
                case rel => exact ⟨k + 1, hs1, cur, _, by omega, by go_num, by rw [HG.out.2], rfl, by first | omega | (rw [hl]; omega), HJ5.out.1, HJ5.out.2, fun h => by rw [HG.out.1]; exact HST.out.symm⟩
                case measure => simp [intOf]; omega
            | false =>
              have KDq := Lib.hid (KD.out wq HBQ.out)
              have hx3 := (HS.out wq (HBQ.out.mono HR.out.2.1.size)).2.1
              go_wp2_with fail
              (with_reducible refine KDq.out.mono ?_)
              rintro e w4 ⟨rfl, o4, _, j4⟩
              have HJ4 : Hid (Jr W.heap.size w4 J (hs1 ++ [cur]) (delM cur o.key) ∧ Below W.heap.size W w4) := ⟨j4, (HR.out.2.1.trans (HBQ.out.mono HR.out.2.1.size)).trans (o4.below (Nat.le_trans HR.out.2.1.size HBQ.out.size))⟩
              have hG : getM (delM cur o.key) key = [] ∧ hasM (delM cur o.key) key = false := by have := del_self HRC.out o.key; rw [HE.out] at this ⊢; exact ⟨this.2, this.1⟩
              clear o4 j4 KDq
              have HG := Lib.hid hG
              clear hG
              have KG : Hid (Calls Try.prog 18 #[.pointer (some ⟨J, 0, none⟩), .slice Ak key.length ckk] w4 (GotO w4 [] false)) := by have := HGET.out w4 _ _ HJ4.out.1 HJ4.out.2; rw [HG.out.1, HG.out.2] at this; exact this
              go_wp2_with fail
              (with_reducible refine KG.out.mono ?_)
              rintro e w5 ⟨V, rfl, v1, v2, v3⟩
              have HJ5 : Hid (Jr W.heap.size w5 J ((hs1 ++ [cur])) ((delM cur o.key)) ∧ Below W.heap.size W w5) := ⟨HJ4.out.1.on v3, HJ4.out.2.trans (v3.mono HJ4.out.2.size)⟩
              have hsv := own_SB v1 v2
              have d5 := hsv.str
              obtain ⟨A5, c5, rfl, _⟩ := hsv
              clear v1 v2 v3 KG
              go_wp2
              go_roundw
              case rel => exact ⟨k + 1, (hs1 ++ [cur]), (delM cur o.key), _, by omega, by go_num, by rw [HG.out.2], rfl, by first | omega | (rw [hl]; omega), HJ5.out.1, HJ5.out.2, fun h => by rw [HG.out.2] at h; cases h⟩
              case measure => simp [intOf]; omega
          · skip
            have he : ¬ o.key = key := by assumption
            have hd : ((strOfNums o.key).toList == (strOfNums key).toList) = false := by rw [hse]; simpa using he
            have HE : Hid (¬ o.key = key) := he
            clear he hse hown
            generalize strOfNums o.key = ko at *
            generalize strOfNums key = kt at *
            go_wp2_with fail
            go_quiet (fail)
            have HBQ : Hid (Below wr.heap.size wr (wr.drewN nq)) := below_drewN (Below.refl _ _) _
            clear d1 d2 hd x2
            generalize wr.drewN nq = wq at *
            have hx2 := (HS.out wq (HBQ.out.mono HR.out.2.1.size)).1
            cases hq : (bits BinOp.and IntKind.i64 o.what 1 == 0) with
            | true =>
              go_wp2_with fail
              have KPq := Lib.hid (KP.out wq.drew (HBQ.out.drew))
              have HCq := Lib.hid (HS.out wq.drew ((HBQ.out.drew).mono HR.out.2.1.size))
              refine wp_region_held_drew (S := (fun w' => w'.cell? ⟨b, off + k * 4, none⟩ = some (.int .i64 o.what) ∧ w'.cell? ⟨b, off + k * 4 + 1, none⟩ = some (.slice Ao' o.key.length ck) ∧ w'.cell? ⟨b, off + k * 4 + 2, none⟩ = some (.slice Av o.val.length cv))) (by kernel_rfl) HCq.out (fun hHeld => ?_)
              refine wpAnyH_take (i := 0) (v := ?vp14nt1) rfl (by kernel_rfl) (by kernel_rfl) (by kernel_rfl) (fun _ _ _ h => h) (Or.inl ⟨by kernel_rfl, ?yp14nt1⟩) (by assumption) ?rp14nt1
              case yp14nt1 => (intro w hSw; (try dsimp only at hSw); obtain ⟨s1, s2, s3⟩ := hSw; go_simp; (try with_reducible rfl))
              try simp only [Act.put, List.getElem_toArray, List.getElem_cons_zero, List.getElem_cons_succ, List.setIfInBounds_toArray, List.set_cons_zero, List.set_cons_succ]
              refine wpAnyH_take (i := 1) (v := ?vp14nt2) rfl (by kernel_rfl) (by kernel_rfl) (by kernel_rfl) (fun _ _ _ h => h) (Or.inl ⟨by kernel_rfl, ?yp14nt2⟩) (by assumption) ?rp14nt2
              case yp14nt2 => (intro w hSw; (try dsimp only at hSw); obtain ⟨s1, s2, s3⟩ := hSw; go_simp; (try with_reducible rfl))
              try simp only [Act.put, List.getElem_toArray, List.getElem_cons_zero, List.getElem_cons_succ, List.setIfInBounds_toArray, List.set_cons_zero, List.set_cons_succ]
              refine wpAnyH_take (i := 2) (v := ?vp14nt3) rfl (by kernel_rfl) (by kernel_rfl) (by kernel_rfl) (fun _ _ _ h => h) (Or.inl ⟨by kernel_rfl, ?yp14nt3⟩) (by assumption) ?rp14nt3
              case yp14nt3 => (intro w hSw; (try dsimp only at hSw); obtain ⟨s1, s2, s3⟩ := hSw; go_simp; (try with_reducible rfl))
              try simp only [Act.put, List.getElem_toArray, List.getElem_cons_zero, List.getElem_cons_succ, List.setIfInBounds_toArray, List.set_cons_zero, List.set_cons_succ]
              refine wpAnyH_take (i := 3) (v := ?vp14nt4) rfl (by kernel_rfl) (by kernel_rfl) (by kernel_rfl) (fun _ _ _ h => h) (Or.inl ⟨by kernel_rfl, ?yp14nt4⟩) (by assumption) ?rp14nt4
              case yp14nt4 => (intro w hSw; (try dsimp only at hSw); obtain ⟨s1, s2, s3⟩ := hSw; go_simp; (try with_reducible rfl))
              try simp only [Act.put, List.getElem_toArray, List.getElem_cons_zero, List.getElem_cons_succ, List.setIfInBounds_toArray, List.set_cons_zero, List.set_cons_succ]
              refine wpAnyH_take (i := 4) (v := ?vp14nt5) rfl (by kernel_rfl) (by kernel_rfl) (by kernel_rfl) (fun _ _ _ h => h) (Or.inl ⟨by kernel_rfl, ?yp14nt5⟩) (by assumption) ?rp14nt5
              case yp14nt5 => (intro w hSw; (try dsimp only at hSw); obtain ⟨s1, s2, s3⟩ := hSw; go_simp; (try with_reducible rfl))
              try simp only [Act.put, List.getElem_toArray, List.getElem_cons_zero, List.getElem_cons_succ, List.setIfInBounds_toArray, List.set_cons_zero, List.set_cons_succ]
              refine wpAnyH_take (i := 5) (v := ?vp14nt6) rfl (by kernel_rfl) (by kernel_rfl) (by kernel_rfl) (fun _ _ _ h => h) (Or.inl ⟨by kernel_rfl, ?yp14nt6⟩) (by assumption) ?rp14nt6
              case yp14nt6 => (intro w hSw; (try dsimp only at hSw); obtain ⟨s1, s2, s3⟩ := hSw; go_simp; (try with_reducible rfl))
              try simp only [Act.put, List.getElem_toArray, List.getElem_cons_zero, List.getElem_cons_succ, List.setIfInBounds_toArray, List.set_cons_zero, List.set_cons_succ]
              refine wpAnyH_take (i := 6) (v := ?vp14nt7) rfl (by kernel_rfl) (by kernel_rfl) (by kernel_rfl) (fun _ _ _ h => h) (Or.inl ⟨by kernel_rfl, ?yp14nt7⟩) (by assumption) ?rp14nt7
              case yp14nt7 => (intro w hSw; (try dsimp only at hSw); obtain ⟨s1, s2, s3⟩ := hSw; go_simp; (try with_reducible rfl))
              try simp only [Act.put, List.getElem_toArray, List.getElem_cons_zero, List.getElem_cons_succ, List.setIfInBounds_toArray, List.set_cons_zero, List.set_cons_succ]
              refine wpAnyH_take (i := 7) (v := ?vp14nt8) rfl (by kernel_rfl) (by kernel_rfl) (by kernel_rfl) (fun _ _ _ h => h) (Or.inl ⟨by kernel_rfl, ?yp14nt8⟩) (by assumption) ?rp14nt8
              case yp14nt8 => (intro w hSw; (try dsimp only at hSw); obtain ⟨s1, s2, s3⟩ := hSw; go_simp; (try with_reducible rfl))
              try simp only [Act.put, List.getElem_toArray, List.getElem_cons_zero, List.getElem_cons_succ, List.setIfInBounds_toArray, List.set_cons_zero, List.set_cons_succ]
              refine wpAnyH_take (i := 8) (v := ?vp14nt9) rfl (by kernel_rfl) (by kernel_rfl) (by kernel_rfl) (fun _ _ _ h => h) (Or.inl ⟨by kernel_rfl, ?yp14nt9⟩) (by assumption) ?rp14nt9
              case yp14nt9 => (intro w hSw; (try dsimp only at hSw); obtain ⟨s1, s2, s3⟩ := hSw; go_simp; (try with_reducible rfl))
              try simp only [Act.put, List.getElem_toArray, List.getElem_cons_zero, List.getElem_cons_succ, List.setIfInBounds_toArray, List.set_cons_zero, List.set_cons_succ]
              refine wpAnyH_take (i := 9) (v := ?vp14nt10) rfl (by kernel_rfl) (by kernel_rfl) (by kernel_rfl) (fun _ _ _ h => h) (Or.inl ⟨by kernel_rfl, ?yp14nt10⟩) (by assumption) ?rp14nt10
              case yp14nt10 => (intro w hSw; (try dsimp only at hSw); obtain ⟨s1, s2, s3⟩ := hSw; go_simp; (try with_reducible rfl))
              try simp only [Act.put, List.getElem_toArray, List.getElem_cons_zero, List.getElem_cons_succ, List.setIfInBounds_toArray, List.set_cons_zero, List.set_cons_succ]
              refine wpAnyH_take (i := 10) (v := ?vp14nt11) rfl (by kernel_rfl) (by kernel_rfl) (by kernel_rfl) (fun _ _ _ h => h) (Or.inl ⟨by kernel_rfl, ?yp14nt11⟩) (by assumption) ?rp14nt11
              case yp14nt11 => (intro w hSw; (try dsimp only at hSw); obtain ⟨s1, s2, s3⟩ := hSw; go_simp; (try with_reducible rfl))
              try simp only [Act.put, List.getElem_toArray, List.getElem_cons_zero, List.getElem_cons_succ, List.setIfInBounds_toArray, List.set_cons_zero, List.set_cons_succ]
              refine wpAnyH_ready (rs := [11]) (by kernel_rfl) (by simp) ?_
              refine AllReadyH.cons rfl (fun K hK => ?_) AllReadyH.nil
              go_simp
              (with_reducible refine KPq.out.mono ?_)
              rintro e w4 ⟨rfl, h1, h2⟩
              have HBR : Hid (Below W.heap.size wr w4) := by
                by_cases hE : putE cur o.key o.val = 0
                · exact (HBQ.out.drew.mono HR.out.2.1.size).trans ((h1 hE).1.below (Nat.le_trans HR.out.2.1.size (HBQ.out.drew).size))
                · exact ((HBQ.out.drew).trans ((h2 hE).mono (HBQ.out.drew).size)).mono HR.out.2.1.size
              have HPJ : Hid ((putE cur o.key o.val = 0 → Jr W.heap.size w4 J (hs1 ++ [cur]) (putM cur o.key o.val)) ∧ (putE cur o.key o.val ≠ 0 → Jr W.heap.size w4 J hs1 cur)) := ⟨fun h => (h1 h).2.2, fun h => (HR.out.1.on HBQ.out.drew).on (h2 h)⟩
              clear h1 h2
              by_cases hE : putE cur o.key o.val = 0
              · skip
                have HJ4 : Hid (Jr W.heap.size w4 J (hs1 ++ [cur]) (putM cur o.key o.val) ∧ Below W.heap.size W w4) := ⟨HPJ.out.1 hE, HR.out.2.1.trans HBR.out⟩
                have hG : getM (putM cur o.key o.val) key = gv ∧ hasM (putM cur o.key o.val) key = true := by have := ((puts_plain HRC.out o.key o.val).2.2.2.2 key (fun h => HE.out h.symm)).1; exact ⟨this.2.symm.trans HGV.out, this.1.symm.trans HH.out⟩
                rw [hE]
                have HG1 := Lib.hid hG
                clear hG
                have hx4 := (HS.out w4 HBR.out).2.2
                have hsv4 := HSV.out w4 HBR.out
                have HCw := Lib.hid (HS.out w4 HBR.out)
                clear HPJ HBR KPq HCq
                go_wp2_with fail
                refine hK.out _ _ HCw.out (fun hHeld => ?_)
                clear hK K
                refine wpAnyH_take (i := 12) (v := ?vq14nty1) rfl (by kernel_rfl) (by kernel_rfl) (by kernel_rfl) (fun _ _ _ h => h) (Or.inl ⟨by kernel_rfl, ?yq14nty1⟩) (by assumption) ?rq14nty1
                case yq14nty1 => (intro w hSw; (try dsimp only at hSw); obtain ⟨s1, s2, s3⟩ := hSw; go_simp; (try with_reducible rfl))
                try simp only [Act.put, List.getElem_toArray, List.getElem_cons_zero, List.getElem_cons_succ, List.setIfInBounds_toArray, List.set_cons_zero, List.set_cons_succ]
                refine wpAnyH_take (i := 13) (v := ?vq14nty2) rfl (by kernel_rfl) (by kernel_rfl) (by kernel_rfl) (fun _ _ _ h => h) (Or.inl ⟨by kernel_rfl, ?yq14nty2⟩) (by assumption) ?rq14nty2
                case yq14nty2 => (intro w hSw; (try dsimp only at hSw); obtain ⟨s1, s2, s3⟩ := hSw; go_simp; (try with_reducible rfl))
                try simp only [Act.put, List.getElem_toArray, List.getElem_cons_zero, List.getElem_cons_succ, List.setIfInBounds_toArray, List.set_cons_zero, List.set_cons_succ]
                refine wpAnyH_take (i := 14) (v := ?vq14nty3) rfl (by kernel_rfl) (by kernel_rfl) (by kernel_rfl) (fun _ _ _ h => h) (Or.inl ⟨by kernel_rfl, ?yq14nty3⟩) (by assumption) ?rq14nty3
                case yq14nty3 => (intro w hSw; (try dsimp only at hSw); obtain ⟨s1, s2, s3⟩ := hSw; go_simp; (try with_reducible rfl))
                try simp only [Act.put, List.getElem_toArray, List.getElem_cons_zero, List.getElem_cons_succ, List.setIfInBounds_toArray, List.set_cons_zero, List.set_cons_succ]
                refine wpAnyH_take (i := 15) (v := ?vq14nty4) rfl (by kernel_rfl) (by kernel_rfl) (by kernel_rfl) (fun _ _ _ h => h) (Or.inl ⟨by kernel_rfl, ?yq14nty4⟩) (by assumption) ?rq14nty4
                case yq14nty4 => (intro w hSw; (try dsimp only at hSw); obtain ⟨s1, s2, s3⟩ := hSw; go_simp; (try with_reducible rfl))
                try simp only [Act.put, List.getElem_toArray, List.getElem_cons_zero, List.getElem_cons_succ, List.setIfInBounds_toArray, List.set_cons_zero, List.set_cons_succ]
                refine wpAnyH_done (by kernel_rfl) ?_ _
                have HG := HG1
                have KG : Hid (Calls Try.prog 18 #[.pointer (some ⟨J, 0, none⟩), .slice Ak key.length ckk] w4 (GotO w4 gv true)) := by have := HGET.out w4 _ _ HJ4.out.1 HJ4.out.2; rw [HG.out.1, HG.out.2] at this; exact this
                go_wp2_with fail
                (with_reducible refine KG.out.mono ?_)
                rintro e w5 ⟨V, rfl, v1, v2, v3⟩
                have HJ5 : Hid (Jr W.heap.size w5 J ((hs1 ++ [cur])) ((putM cur o.key o.val)) ∧ Below W.heap.size W w5) := ⟨HJ4.out.1.on v3, HJ4.out.2.trans (v3.mono HJ4.out.2.size)⟩
                have hsv := own_SB v1 v2
                have d5 := hsv.str
                obtain ⟨A5, c5, rfl, _⟩ := hsv
                clear v1 v2 v3 KG
                generalize hst : strOfNums gv = st at *
                have HST := Lib.hid hst
                clear hst
                have hsst : s = st := by have := HR.out.2.2 (by first | rfl | trivial); rw [HGV.out] at this; exact this.trans HST.out
                subst hsst
                go_wp2
                go_roundw
                case rel => exact ⟨k + 1, (hs1 ++ [cur]), (putM cur o.key o.val), _, by omega, by go_num, by rw [HG.out.2], rfl, by first | omega | (rw [hl]; omega), HJ5.out.1, HJ5.out.2, fun h => by rw [HG.out.1]; exact HST.out.symm⟩
                case measure => simp [intOf]; omega
              · skip
                have hE' : (putE cur o.key o.val == 0) = false := by simpa using hE
                have HJ4 : Hid (Jr W.heap.size w4 J hs1 cur ∧ Below W.heap.size W w4) := ⟨HPJ.out.2 hE, HR.out.2.1.trans HBR.out⟩
                have hG : getM cur key = gv ∧ hasM cur key = true := ⟨HGV.out, HH.out⟩
                have HG1 := Lib.hid hG
                clear hG
                have hx4 := (HS.out w4 HBR.out).2.2
                have hsv4 := HSV.out w4 HBR.out
                have HCw := Lib.hid (HS.out w4 HBR.out)
                clear HPJ HBR KPq HCq
                generalize putE cur o.key o.val = E at *
                go_wp2_with fail
                refine hK.out _ _ HCw.out (fun hHeld => ?_)
                clear hK K
                refine wpAnyH_take (i := 12) (v := ?vq14ntx1) rfl (by kernel_rfl) (by kernel_rfl) (by kernel_rfl) (fun _ _ _ h => h) (Or.inl ⟨by kernel_rfl, ?yq14ntx1⟩) (by assumption) ?rq14ntx1
                case yq14ntx1 => (intro w hSw; (try dsimp only at hSw); obtain ⟨s1, s2, s3⟩ := hSw; go_simp; (try with_reducible rfl))
                try simp only [Act.put, List.getElem_toArray, List.getElem_cons_zero, List.getElem_cons_succ, List.setIfInBounds_toArray, List.set_cons_zero, List.set_cons_succ]
                refine wpAnyH_take (i := 13) (v := ?vq14ntx2) rfl (by kernel_rfl) (by kernel_rfl) (by kernel_rfl) (fun _ _ _ h => h) (Or.inl ⟨by kernel_rfl, ?yq14ntx2⟩) (by assumption) ?rq14ntx2
                case yq14ntx2 => (intro w hSw; (try dsimp only at hSw); obtain ⟨s1, s2, s3⟩ := hSw; go_simp; (try with_reducible rfl))
                try simp only [Act.put, List.getElem_toArray, List.getElem_cons_zero, List.getElem_cons_succ, List.setIfInBounds_toArray, List.set_cons_zero, List.set_cons_succ]
                refine wpAnyH_take (i := 14) (v := undef) rfl (by kernel_rfl) (by kernel_rfl) (by kernel_rfl) (fun _ _ _ h => h) (Or.inr ⟨by kernel_rfl, rfl⟩) (by assumption) ?rq14ntx3
                try simp only [Act.put, List.getElem_toArray, List.getElem_cons_zero, List.getElem_cons_succ, List.setIfInBounds_toArray, List.set_cons_zero, List.set_cons_succ]
                refine wpAnyH_take (i := 15) (v := ?vq14ntx4) rfl (by kernel_rfl) (by kernel_rfl) (by kernel_rfl) (fun _ _ _ h => h) (Or.inl ⟨by kernel_rfl, ?yq14ntx4⟩) (by assumption) ?rq14ntx4
                case yq14ntx4 => (intro w hSw; (try dsimp only at hSw); obtain ⟨s1, s2, s3⟩ := hSw; go_simp; (try with_reducible rfl))
                try simp only [Act.put, List.getElem_toArray, List.getElem_cons_zero, List.getElem_cons_succ, List.setIfInBounds_toArray, List.set_cons_zero, List.set_cons_succ]
                refine wpAnyH_done (by kernel_rfl) ?_ _
                have HG := HG1
                have KG : Hid (Calls Try.prog 18 #[.pointer (some ⟨J, 0, none⟩), .slice Ak key.length ckk] w4 (GotO w4 gv true)) := by have := HGET.out w4 _ _ HJ4.out.1 HJ4.out.2; rw [HG.out.1, HG.out.2] at this; exact this
                go_wp2_with fail
                (with_reducible refine KG.out.mono ?_)
                rintro e w5 ⟨V, rfl, v1, v2, v3⟩
                have HJ5 : Hid (Jr W.heap.size w5 J (hs1) (cur) ∧ Below W.heap.size W w5) := ⟨HJ4.out.1.on v3, HJ4.out.2.trans (v3.mono HJ4.out.2.size)⟩
                have hsv := own_SB v1 v2
                have d5 := hsv.str
                obtain ⟨A5, c5, rfl, _⟩ := hsv
                clear v1 v2 v3 KG
                generalize hst : strOfNums gv = st at *
                have HST := Lib.hid hst
                clear hst
                have hsst : s = st := by have := HR.out.2.2 (by first | rfl | trivial); rw [HGV.out] at this; exact this.trans HST.out
                subst hsst
                go_wp2
                go_roundw
                case rel => exact ⟨k + 1, hs1, cur, _, by omega, by go_num, by rw [HG.out.2], rfl, by first | omega | (rw [hl]; omega), HJ5.out.1, HJ5.out.2, fun h => by rw [HG.out.1]; exact HST.out.symm⟩
                case measure => simp [intOf]; omega
            | false =>
              have KDq := Lib.hid (KD.out wq HBQ.out)
              have hx3 := (HS.out wq (HBQ.out.mono HR.out.2.1.size)).2.1
              go_wp2_with fail
              (with_reducible refine KDq.out.mono ?_)
              rintro e w4 ⟨rfl, o4, _, j4⟩
              have HJ4 : Hid (Jr W.heap.size w4 J (hs1 ++ [cur]) (delM cur o.key) ∧ Below W.heap.size W w4) := ⟨j4, (HR.out.2.1.trans (HBQ.out.mono HR.out.2.1.size)).trans (o4.below (Nat.le_trans HR.out.2.1.size HBQ.out.size))⟩
              have hG : getM (delM cur o.key) key = gv ∧ hasM (delM cur o.key) key = true := by have := del_other HRC.out (k := o.key) (o := key) (fun h => HE.out h.symm); exact ⟨this.2.trans HGV.out, this.1.trans HH.out⟩
              clear o4 j4 KDq
              have HG := Lib.hid hG
              clear hG
              have KG : Hid (Calls Try.prog 18 #[.pointer (some ⟨J, 0, none⟩), .slice Ak key.length ckk] w4 (GotO w4 gv true)) := by have := HGET.out w4 _ _ HJ4.out.1 HJ4.out.2; rw [HG.out.1, HG.out.2] at this; exact this
              go_wp2_with fail
              (with_reducible refine KG.out.mono ?_)
              rintro e w5 ⟨V, rfl, v1, v2, v3⟩
              have HJ5 : Hid (Jr W.heap.size w5 J ((hs1 ++ [cur])) ((delM cur o.key)) ∧ Below W.heap.size W w5) := ⟨HJ4.out.1.on v3, HJ4.out.2.trans (v3.mono HJ4.out.2.size)⟩
              have hsv := own_SB v1 v2
              have d5 := hsv.str
              obtain ⟨A5, c5, rfl, _⟩ := hsv
              clear v1 v2 v3 KG
              generalize hst : strOfNums gv = st at *
              have HST := Lib.hid hst
              clear hst
              have hsst : s = st := by have := HR.out.2.2 (by first | rfl | trivial); rw [HGV.out] at this; exact this.trans HST.out
              subst hsst
              go_wp2
              go_roundw
              case rel => exact ⟨k + 1, (hs1 ++ [cur]), (delM cur o.key), _, by omega, by go_num, by rw [HG.out.2], rfl, by first | omega | (rw [hl]; omega), HJ5.out.1, HJ5.out.2, fun h => by rw [HG.out.1]; exact HST.out.symm⟩
              case measure => simp [intOf]; omega
        | false =>
          obtain ⟨gv, hgv0, hgv⟩ : ∃ gv, gv = [] ∧ getM cur key = gv := ⟨_, rfl, get_none hh⟩
          have HG0 : Hid (gv = []) := hgv0
          clear hgv0
          have HGV := Lib.hid hgv
          have HH := Lib.hid hh
          clear hgv hh
          by_cases hown : o.key = key
          · skip
            have he : o.key = key := by assumption
            have hd : ((strOfNums o.key).toList == (strOfNums key).toList) = true := by rw [hse]; simpa using he
            have HE : Hid (o.key = key) := he
            clear he hse hown
            generalize strOfNums o.key = ko at *
            generalize strOfNums key = kt at *
            go_wp2_with fail
            go_quiet (fail)
            have HBQ : Hid (Below wr.heap.size wr (wr.drewN nq)) := below_drewN (Below.refl _ _) _
            clear d1 d2 hd x2
            generalize wr.drewN nq = wq at *
            have hx2 := (HS.out wq (HBQ.out.mono HR.out.2.1.size)).1
            cases hq : (bits BinOp.and IntKind.i64 o.what 1 == 0) with
            | true =>
              go_wp2_with fail
              have KPq := Lib.hid (KP.out wq.drew (HBQ.out.drew))
              have HCq := Lib.hid (HS.out wq.drew ((HBQ.out.drew).mono HR.out.2.1.size))
              refine wp_region_held_drew (S := (fun w' => w'.cell? ⟨b, off + k * 4, none⟩ = some (.int .i64 o.what) ∧ w'.cell? ⟨b, off + k * 4 + 1, none⟩ = some (.slice Ao' o.key.length ck) ∧ w'.cell? ⟨b, off + k * 4 + 2, none⟩ = some (.slice Av o.val.length cv))) (by kernel_rfl) HCq.out (fun hHeld => ?_)
              refine wpAnyH_take (i := 0) (v := ?vp14ef1) rfl (by kernel_rfl) (by kernel_rfl) (by kernel_rfl) (fun _ _ _ h => h) (Or.inl ⟨by kernel_rfl, ?yp14ef1⟩) (by assumption) ?rp14ef1
              case yp14ef1 => (intro w hSw; (try dsimp only at hSw); obtain ⟨s1, s2, s3⟩ := hSw; go_simp; (try with_reducible rfl))
              try simp only [Act.put, List.getElem_toArray, List.getElem_cons_zero, List.getElem_cons_succ, List.setIfInBounds_toArray, List.set_cons_zero, List.set_cons_succ]
              refine wpAnyH_take (i := 1) (v := ?vp14ef2) rfl (by kernel_rfl) (by kernel_rfl) (by kernel_rfl) (fun _ _ _ h => h) (Or.inl ⟨by kernel_rfl, ?yp14ef2⟩) (by assumption) ?rp14ef2
              case yp14ef2 => (intro w hSw; (try dsimp only at hSw); obtain ⟨s1, s2, s3⟩ := hSw; go_simp; (try with_reducible rfl))
              try simp only [Act.put, List.getElem_toArray, List.getElem_cons_zero, List.getElem_cons_succ, List.setIfInBounds_toArray, List.set_cons_zero, List.set_cons_succ]
              refine wpAnyH_take (i := 2) (v := ?vp14ef3) rfl (by kernel_rfl) (by kernel_rfl) (by kernel_rfl) (fun _ _ _ h => h) (Or.inl ⟨by kernel_rfl, ?yp14ef3⟩) (by assumption) ?rp14ef3
              case yp14ef3 => (intro w hSw; (try dsimp only at hSw); obtain ⟨s1, s2, s3⟩ := hSw; go_simp; (try with_reducible rfl))
              try simp only [Act.put, List.getElem_toArray, List.getElem_cons_zero, List.getElem_cons_succ, List.setIfInBounds_toArray, List.set_cons_zero, List.set_cons_succ]
              refine wpAnyH_take (i := 3) (v := ?vp14ef4) rfl (by kernel_rfl) (by kernel_rfl) (by kernel_rfl) (fun _ _ _ h => h) (Or.inl ⟨by kernel_rfl, ?yp14ef4⟩) (by assumption) ?rp14ef4
              case yp14ef4 => (intro w hSw; (try dsimp only at hSw); obtain ⟨s1, s2, s3⟩ := hSw; go_simp; (try with_reducible rfl))
              try simp only [Act.put, List.getElem_toArray, List.getElem_cons_zero, List.getElem_cons_succ, List.setIfInBounds_toArray, List.set_cons_zero, List.set_cons_succ]
              refine wpAnyH_take (i := 4) (v := ?vp14ef5) rfl (by kernel_rfl) (by kernel_rfl) (by kernel_rfl) (fun _ _ _ h => h) (Or.inl ⟨by kernel_rfl, ?yp14ef5⟩) (by assumption) ?rp14ef5
              case yp14ef5 => (intro w hSw; (try dsimp only at hSw); obtain ⟨s1, s2, s3⟩ := hSw; go_simp; (try with_reducible rfl))
              try simp only [Act.put, List.getElem_toArray, List.getElem_cons_zero, List.getElem_cons_succ, List.setIfInBounds_toArray, List.set_cons_zero, List.set_cons_succ]
              refine wpAnyH_take (i := 5) (v := ?vp14ef6) rfl (by kernel_rfl) (by kernel_rfl) (by kernel_rfl) (fun _ _ _ h => h) (Or.inl ⟨by kernel_rfl, ?yp14ef6⟩) (by assumption) ?rp14ef6
              case yp14ef6 => (intro w hSw; (try dsimp only at hSw); obtain ⟨s1, s2, s3⟩ := hSw; go_simp; (try with_reducible rfl))
              try simp only [Act.put, List.getElem_toArray, List.getElem_cons_zero, List.getElem_cons_succ, List.setIfInBounds_toArray, List.set_cons_zero, List.set_cons_succ]
              refine wpAnyH_take (i := 6) (v := ?vp14ef7) rfl (by kernel_rfl) (by kernel_rfl) (by kernel_rfl) (fun _ _ _ h => h) (Or.inl ⟨by kernel_rfl, ?yp14ef7⟩) (by assumption) ?rp14ef7
              case yp14ef7 => (intro w hSw; (try dsimp only at hSw); obtain ⟨s1, s2, s3⟩ := hSw; go_simp; (try with_reducible rfl))
              try simp only [Act.put, List.getElem_toArray, List.getElem_cons_zero, List.getElem_cons_succ, List.setIfInBounds_toArray, List.set_cons_zero, List.set_cons_succ]
              refine wpAnyH_take (i := 7) (v := ?vp14ef8) rfl (by kernel_rfl) (by kernel_rfl) (by kernel_rfl) (fun _ _ _ h => h) (Or.inl ⟨by kernel_rfl, ?yp14ef8⟩) (by assumption) ?rp14ef8
              case yp14ef8 => (intro w hSw; (try dsimp only at hSw); obtain ⟨s1, s2, s3⟩ := hSw; go_simp; (try with_reducible rfl))
              try simp only [Act.put, List.getElem_toArray, List.getElem_cons_zero, List.getElem_cons_succ, List.setIfInBounds_toArray, List.set_cons_zero, List.set_cons_succ]
              refine wpAnyH_take (i := 8) (v := ?vp14ef9) rfl (by kernel_rfl) (by kernel_rfl) (by kernel_rfl) (fun _ _ _ h => h) (Or.inl ⟨by kernel_rfl, ?yp14ef9⟩) (by assumption) ?rp14ef9
              case yp14ef9 => (intro w hSw; (try dsimp only at hSw); obtain ⟨s1, s2, s3⟩ := hSw; go_simp; (try with_reducible rfl))
              try simp only [Act.put, List.getElem_toArray, List.getElem_cons_zero, List.getElem_cons_succ, List.setIfInBounds_toArray, List.set_cons_zero, List.set_cons_succ]
              refine wpAnyH_take (i := 9) (v := ?vp14ef10) rfl (by kernel_rfl) (by kernel_rfl) (by kernel_rfl) (fun _ _ _ h => h) (Or.inl ⟨by kernel_rfl, ?yp14ef10⟩) (by assumption) ?rp14ef10
              case yp14ef10 => (intro w hSw; (try dsimp only at hSw); obtain ⟨s1, s2, s3⟩ := hSw; go_simp; (try with_reducible rfl))
              try simp only [Act.put, List.getElem_toArray, List.getElem_cons_zero, List.getElem_cons_succ, List.setIfInBounds_toArray, List.set_cons_zero, List.set_cons_succ]
              refine wpAnyH_take (i := 10) (v := ?vp14ef11) rfl (by kernel_rfl) (by kernel_rfl) (by kernel_rfl) (fun _ _ _ h => h) (Or.inl ⟨by kernel_rfl, ?yp14ef11⟩) (by assumption) ?rp14ef11
              case yp14ef11 => (intro w hSw; (try dsimp only at hSw); obtain ⟨s1, s2, s3⟩ := hSw; go_simp; (try with_reducible rfl))
              try simp only [Act.put, List.getElem_toArray, List.getElem_cons_zero, List.getElem_cons_succ, List.setIfInBounds_toArray, List.set_cons_zero, List.set_cons_succ]
              refine wpAnyH_ready (rs := [11]) (by kernel_rfl) (by simp) ?_
              refine AllReadyH.cons rfl (fun K hK => ?_) AllReadyH.nil
              go_simp
              (with_reducible refine KPq.out.mono ?_)
              rintro e w4 ⟨rfl, h1, h2⟩
              have HBR : Hid (Below W.heap.size wr w4) := by
                by_cases hE : putE cur o.key o.val = 0
                · exact (HBQ.out.drew.mono HR.out.2.1.size).trans ((h1 hE).1.below (Nat.le_trans HR.out.2.1.size (HBQ.out.drew).size))
                · exact ((HBQ.out.drew).trans ((h2 hE).mono (HBQ.out.drew).size)).mono HR.out.2.1.size
              have HPJ : Hid ((putE cur o.key o.val = 0 → Jr W.heap.size w4 J (hs1 ++ [cur]) (putM cur o.key o.val)) ∧ (putE cur o.key o.val ≠ 0 → Jr W.heap.size w4 J hs1 cur)) := ⟨fun h => (h1 h).2.2, fun h => (HR.out.1.on HBQ.out.drew).on (h2 h)⟩
              clear h1 h2
              by_cases hE : putE cur o.key o.val = 0
              · skip
                have HJ4 : Hid (Jr W.heap.size w4 J (hs1 ++ [cur]) (putM cur o.key o.val) ∧ Below W.heap.size W w4) := ⟨HPJ.out.1 hE, HR.out.2.1.trans HBR.out⟩
                have hG : getM (putM cur o.key o.val) key = o.val ∧ hasM (putM cur o.key o.val) key = true := by have := puts_plain HRC.out o.key o.val; rw [HE.out] at this ⊢; exact ⟨this.2.1, this.1⟩
                rw [hE]
                have HG1 := Lib.hid hG
                clear hG
                have hx4 := (HS.out w4 HBR.out).2.2
                have hsv4 := HSV.out w4 HBR.out
                have HCw := Lib.hid (HS.out w4 HBR.out)
                clear HPJ HBR KPq HCq
                go_wp2_with fail
                refine hK.out _ _ HCw.out (fun hHeld => ?_)
                clear hK K
                refine wpAnyH_take (i := 12) (v := ?vq14efy1) rfl (by kernel_rfl) (by kernel_rfl) (by kernel_rfl) (fun _ _ _ h => h) (Or.inl ⟨by kernel_rfl, ?yq14efy1⟩) (by assumption) ?rq14efy1
                case yq14efy1 => (intro w hSw; (try dsimp only at hSw); obtain ⟨s1, s2, s3⟩ := hSw; go_simp; (try with_reducible rfl))
                try simp only [Act.put, List.getElem_toArray, List.getElem_cons_zero, List.getElem_cons_succ, List.setIfInBounds_toArray, List.set_cons_zero, List.set_cons_succ]
                refine wpAnyH_take (i := 13) (v := ?vq14efy2) rfl (by kernel_rfl) (by kernel_rfl) (by kernel_rfl) (fun _ _ _ h => h) (Or.inl ⟨by kernel_rfl, ?yq14efy2⟩) (by assumption) ?rq14efy2
                case yq14efy2 => (intro w hSw; (try dsimp only at hSw); obtain ⟨s1, s2, s3⟩ := hSw; go_simp; (try with_reducible rfl))
                try simp only [Act.put, List.getElem_toArray, List.getElem_cons_zero, List.getElem_cons_succ, List.setIfInBounds_toArray, List.set_cons_zero, List.set_cons_succ]
                refine wpAnyH_take (i := 14) (v := ?vq14efy3) rfl (by kernel_rfl) (by kernel_rfl) (by kernel_rfl) (fun _ _ _ h => h) (Or.inl ⟨by kernel_rfl, ?yq14efy3⟩) (by assumption) ?rq14efy3
                case yq14efy3 => (intro w hSw; (try dsimp only at hSw); obtain ⟨s1, s2, s3⟩ := hSw; go_simp; (try with_reducible rfl))
                try simp only [Act.put, List.getElem_toArray, List.getElem_cons_zero, List.getElem_cons_succ, List.setIfInBounds_toArray, List.set_cons_zero, List.set_cons_succ]
                refine wpAnyH_take (i := 15) (v := ?vq14efy4) rfl (by kernel_rfl) (by kernel_rfl) (by kernel_rfl) (fun _ _ _ h => h) (Or.inl ⟨by kernel_rfl, ?yq14efy4⟩) (by assumption) ?rq14efy4
                case yq14efy4 => (intro w hSw; (try dsimp only at hSw); obtain ⟨s1, s2, s3⟩ := hSw; go_simp; (try with_reducible rfl))
                try simp only [Act.put, List.getElem_toArray, List.getElem_cons_zero, List.getElem_cons_succ, List.setIfInBounds_toArray, List.set_cons_zero, List.set_cons_succ]
                refine wpAnyH_done (by kernel_rfl) ?_ _
                have HG := HG1
                have KG : Hid (Calls Try.prog 18 #[.pointer (some ⟨J, 0, none⟩), .slice Ak key.length ckk] w4 (GotO w4 o.val true)) := by have := HGET.out w4 _ _ HJ4.out.1 HJ4.out.2; rw [HG.out.1, HG.out.2] at this; exact this
                go_wp2_with fail
                (with_reducible refine KG.out.mono ?_)
                rintro e w5 ⟨V, rfl, v1, v2, v3⟩
                have HJ5 : Hid (Jr W.heap.size w5 J ((hs1 ++ [cur])) ((putM cur o.key o.val)) ∧ Below W.heap.size W w5) := ⟨HJ4.out.1.on v3, HJ4.out.2.trans (v3.mono HJ4.out.2.size)⟩
                have hsv := own_SB v1 v2
                have d5 := hsv.str
                obtain ⟨A5, c5, rfl, _⟩ := hsv
                clear v1 v2 v3 KG
                generalize hst : strOfNums o.val = st at *
                have HST := Lib.hid hst
                clear hst
                go_wp2
                go_roundw
                case rel => exact ⟨k + 1, (hs1 ++ [cur]), (putM cur o.key o.val), _, by omega, by go_num, by rw [HG.out.2], rfl, by first | omega | (rw [hl]; omega), HJ5.out.1, HJ5.out.2, fun h => by rw [HG.out.1]; exact HST.out.symm⟩
                case measure => simp [intOf]; omega
              · skip
                have hE' : (putE cur o.key o.val == 0) = false := by simpa using hE
                have HJ4 : Hid (Jr W.heap.size w4 J hs1 cur ∧ Below W.heap.size W w4) := ⟨HPJ.out.2 hE, HR.out.2.1.trans HBR.out⟩
                have hG : getM cur key = gv ∧ hasM cur key = false := ⟨HGV.out, HH.out⟩
                have HG1 := Lib.hid hG
                clear hG
                have hx4 := (HS.out w4 HBR.out).2.2
                have hsv4 := HSV.out w4 HBR.out
                have HCw := Lib.hid (HS.out w4 HBR.out)
                clear HPJ HBR KPq HCq
                generalize putE cur o.key o.val = E at *
                go_wp2_with fail
                refine hK.out _ _ HCw.out (fun hHeld => ?_)
                clear hK K
                refine wpAnyH_take (i := 12) (v := ?vq14efx1) rfl (by kernel_rfl) (by kernel_rfl) (by kernel_rfl) (fun _ _ _ h => h) (Or.inl ⟨by kernel_rfl, ?yq14efx1⟩) (by assumption) ?rq14efx1
                case yq14efx1 => (intro w hSw; (try dsimp only at hSw); obtain ⟨s1, s2, s3⟩ := hSw; go_simp; (try with_reducible rfl))
                try simp only [Act.put, List.getElem_toArray, List.getElem_cons_zero, List.getElem_cons_succ, List.setIfInBounds_toArray, List.set_cons_zero, List.set_cons_succ]
                refine wpAnyH_take (i := 13) (v := ?vq14efx2) rfl (by kernel_rfl) (by kernel_rfl) (by kernel_rfl) (fun _ _ _ h => h) (Or.inl ⟨by kernel_rfl, ?yq14efx2⟩) (by assumption) ?rq14efx2
                case yq14efx2 => (intro w hSw; (try dsimp only at hSw); obtain ⟨s1, s2, s3⟩ := hSw; go_simp; (try with_reducible rfl))
                try simp only [Act.put, List.getElem_toArray, List.getElem_cons_zero, List.getElem_cons_succ, List.setIfInBounds_toArray, List.set_cons_zero, List.set_cons_succ]
                refine wpAnyH_take (i := 14) (v := undef) rfl (by kernel_rfl) (by kernel_rfl) (by kernel_rfl) (fun _ _ _ h => h) (Or.inr ⟨by kernel_rfl, rfl⟩) (by assumption) ?rq14efx3
                try simp only [Act.put, List.getElem_toArray, List.getElem_cons_zero, List.getElem_cons_succ, List.setIfInBounds_toArray, List.set_cons_zero, List.set_cons_succ]
                refine wpAnyH_take (i := 15) (v := ?vq14efx4) rfl (by kernel_rfl) (by kernel_rfl) (by kernel_rfl) (fun _ _ _ h => h) (Or.inl ⟨by kernel_rfl, ?yq14efx4⟩) (by assumption) ?rq14efx4
                case yq14efx4 => (intro w hSw; (try dsimp only at hSw); obtain ⟨s1, s2, s3⟩ := hSw; go_simp; (try with_reducible rfl))
                try simp only [Act.put, List.getElem_toArray, List.getElem_cons_zero, List.getElem_cons_succ, List.setIfInBounds_toArray, List.set_cons_zero, List.set_cons_succ]
                refine wpAnyH_done (by kernel_rfl) ?_ _
                have HG := HG1
                rw [HG0.out] at HG
                have KG : Hid (Calls Try.prog 18 #[.pointer (some ⟨J, 0, none⟩), .slice Ak key.length ckk] w4 (GotO w4 [] false)) := by have := HGET.out w4 _ _ HJ4.out.1 HJ4.out.2; rw [HG.out.1, HG.out.2] at this; exact this
                go_wp2_with fail
                (with_reducible refine KG.out.mono ?_)
                rintro e w5 ⟨V, rfl, v1, v2, v3⟩
                have HJ5 : Hid (Jr W.heap.size w5 J (hs1) (cur) ∧ Below W.heap.size W w5) := ⟨HJ4.out.1.on v3, HJ4.out.2.trans (v3.mono HJ4.out.2.size)⟩
                have hsv := own_SB v1 v2
                have d5 := hsv.str
                obtain ⟨A5, c5, rfl, _⟩ := hsv
                clear v1 v2 v3 KG
                go_wp2
                go_roundw
                case rel => exact ⟨k + 1, hs1, cur, _, by omega, by go_num, by rw [HG.out.2], rfl, by first | omega | (rw [hl]; omega), HJ5.out.1, HJ5.out.2, fun h => by rw [HG.out.2] at h; cases h⟩
                case measure => simp [intOf]; omega
            | false =>
              have KDq := Lib.hid (KD.out wq HBQ.out)
              have hx3 := (HS.out wq (HBQ.out.mono HR.out.2.1.size)).2.1
              go_wp2_with fail
              (with_reducible refine KDq.out.mono ?_)
              rintro e w4 ⟨rfl, o4, _, j4⟩
              have HJ4 : Hid (Jr W.heap.size w4 J (hs1 ++ [cur]) (delM cur o.key) ∧ Below W.heap.size W w4) := ⟨j4, (HR.out.2.1.trans (HBQ.out.mono HR.out.2.1.size)).trans (o4.below (Nat.le_trans HR.out.2.1.size HBQ.out.size))⟩
              have hG : getM (delM cur o.key) key = [] ∧ hasM (delM cur o.key) key = false := by have := del_self HRC.out o.key; rw [HE.out] at this ⊢; exact ⟨this.2, this.1⟩
              clear o4 j4 KDq
              have HG := Lib.hid hG
              clear hG
              have KG : Hid (Calls Try.prog 18 #[.pointer (some ⟨J, 0, none⟩), .slice Ak key.length ckk] w4 (GotO w4 [] false)) := by have := HGET.out w4 _ _ HJ4.out.1 HJ4.out.2; rw [HG.out.1, HG.out.2] at this; exact this
              go_wp2_with fail
              (with_reducible refine KG.out.mono ?_)
              rintro e w5 ⟨V, rfl, v1, v2, v3⟩
              have HJ5 : Hid (Jr W.heap.size w5 J ((hs1 ++ [cur])) ((delM cur o.key)) ∧ Below W.heap.size W w5) := ⟨HJ4.out.1.on v3, HJ4.out.2.trans (v3.mono HJ4.out.2.size)⟩
              have hsv := own_SB v1 v2
              have d5 := hsv.str
              obtain ⟨A5, c5, rfl, _⟩ := hsv
              clear v1 v2 v3 KG
              go_wp2
              go_roundw
              case rel => exact ⟨k + 1, (hs1 ++ [cur]), (delM cur o.key), _, by omega, by go_num, by rw [HG.out.2], rfl, by first | omega | (rw [hl]; omega), HJ5.out.1, HJ5.out.2, fun h => by rw [HG.out.2] at h; cases h⟩
              case measure => simp [intOf]; omega
          · skip
            have he : ¬ o.key = key := by assumption
            have hd : ((strOfNums o.key).toList == (strOfNums key).toList) = false := by rw [hse]; simpa using he
            have HE : Hid (¬ o.key = key) := he
            clear he hse hown
            generalize strOfNums o.key = ko at *
            generalize strOfNums key = kt at *
            go_wp2_with fail
            go_quiet (fail)
            have HBQ : Hid (Below wr.heap.size wr (wr.drewN nq)) := below_drewN (Below.refl _ _) _
            clear d1 d2 hd x2
            generalize wr.drewN nq = wq at *
            have hx2 := (HS.out wq (HBQ.out.mono HR.out.2.1.size)).1
            cases hq : (bits BinOp.and IntKind.i64 o.what 1 == 0) with
            | true =>
              go_wp2_with fail
              have KPq := Lib.hid (KP.out wq.drew (HBQ.out.drew))
              have HCq := Lib.hid (HS.out wq.drew ((HBQ.out.drew).mono HR.out.2.1.size))
              refine wp_region_held_drew (S := (fun w' => w'.cell? ⟨b, off + k * 4, none⟩ = some (.int .i64 o.what) ∧ w'.cell? ⟨b, off + k * 4 + 1, none⟩ = some (.slice Ao' o.key.length ck) ∧ w'.cell? ⟨b, off + k * 4 + 2, none⟩ = some (.slice Av o.val.length cv))) (by kernel_rfl) HCq.out (fun hHeld => ?_)
              refine wpAnyH_take (i := 0) (v := ?vp14nf1) rfl (by kernel_rfl) (by kernel_rfl) (by kernel_rfl) (fun _ _ _ h => h) (Or.inl ⟨by kernel_rfl, ?yp14nf1⟩) (by assumption) ?rp14nf1
              case yp14nf1 => (intro w hSw; (try dsimp only at hSw); obtain ⟨s1, s2, s3⟩ := hSw; go_simp; (try with_reducible rfl))
              try simp only [Act.put, List.getElem_toArray, List.getElem_cons_zero, List.getElem_cons_succ, List.setIfInBounds_toArray, List.set_cons_zero, List.set_cons_succ]
              refine wpAnyH_take (i := 1) (v := ?vp14nf2) rfl (by kernel_rfl) (by kernel_rfl) (by kernel_rfl) (fun _ _ _ h => h) (Or.inl ⟨by kernel_rfl, ?yp14nf2⟩) (by assumption) ?rp14nf2
              case yp14nf2 => (intro w hSw; (try dsimp only at hSw); obtain ⟨s1, s2, s3⟩ := hSw; go_simp; (try with_reducible rfl))
              try simp only [Act.put, List.getElem_toArray, List.getElem_cons_zero, List.getElem_cons_succ, List.setIfInBounds_toArray, List.set_cons_zero, List.set_cons_succ]
              refine wpAnyH_take (i := 2) (v := ?vp14nf3) rfl (by kernel_rfl) (by kernel_rfl) (by kernel_rfl) (fun _ _ _ h => h) (Or.inl ⟨by kernel_rfl, ?yp14nf3⟩) (by assumption) ?rp14nf3
              case yp14nf3 => (intro w hSw; (try dsimp only at hSw); obtain ⟨s1, s2, s3⟩ := hSw; go_simp; (try with_reducible rfl))
              try simp only [Act.put, List.getElem_toArray, List.getElem_cons_zero, List.getElem_cons_succ, List.setIfInBounds_toArray, List.set_cons_zero, List.set_cons_succ]
              refine wpAnyH_take (i := 3) (v := ?vp14nf4) rfl (by kernel_rfl) (by kernel_rfl) (by kernel_rfl) (fun _ _ _ h => h) (Or.inl ⟨by kernel_rfl, ?yp14nf4⟩) (by assumption) ?rp14nf4
              case yp14nf4 => (intro w hSw; (try dsimp only at hSw); obtain ⟨s1, s2, s3⟩ := hSw; go_simp; (try with_reducible rfl))
              try simp only [Act.put, List.getElem_toArray, List.getElem_cons_zero, List.getElem_cons_succ, List.setIfInBounds_toArray, List.set_cons_zero, List.set_cons_succ]
              refine wpAnyH_take (i := 4) (v := ?vp14nf5) rfl (by kernel_rfl) (by kernel_rfl) (by kernel_rfl) (fun _ _ _ h => h) (Or.inl ⟨by kernel_rfl, ?yp14nf5⟩) (by assumption) ?rp14nf5
              case yp14nf5 => (intro w hSw; (try dsimp only at hSw); obtain ⟨s1, s2, s3⟩ := hSw; go_simp; (try with_reducible rfl))
              try simp only [Act.put, List.getElem_toArray, List.getElem_cons_zero, List.getElem_cons_succ, List.setIfInBounds_toArray, List.set_cons_zero, List.set_cons_succ]
              refine wpAnyH_take (i := 5) (v := ?vp14nf6) rfl (by kernel_rfl) (by kernel_rfl) (by kernel_rfl) (fun _ _ _ h => h) (Or.inl ⟨by kernel_rfl, ?yp14nf6⟩) (by assumption) ?rp14nf6
              case yp14nf6 => (intro w hSw; (try dsimp only at hSw); obtain ⟨s1, s2, s3⟩ := hSw; go_simp; (try with_reducible rfl))
              try simp only [Act.put, List.getElem_toArray, List.getElem_cons_zero, List.getElem_cons_succ, List.setIfInBounds_toArray, List.set_cons_zero, List.set_cons_succ]
              refine wpAnyH_take (i := 6) (v := ?vp14nf7) rfl (by kernel_rfl) (by kernel_rfl) (by kernel_rfl) (fun _ _ _ h => h) (Or.inl ⟨by kernel_rfl, ?yp14nf7⟩) (by assumption) ?rp14nf7
              case yp14nf7 => (intro w hSw; (try dsimp only at hSw); obtain ⟨s1, s2, s3⟩ := hSw; go_simp; (try with_reducible rfl))
              try simp only [Act.put, List.getElem_toArray, List.getElem_cons_zero, List.getElem_cons_succ, List.setIfInBounds_toArray, List.set_cons_zero, List.set_cons_succ]
              refine wpAnyH_take (i := 7) (v := ?vp14nf8) rfl (by kernel_rfl) (by kernel_rfl) (by kernel_rfl) (fun _ _ _ h => h) (Or.inl ⟨by kernel_rfl, ?yp14nf8⟩) (by assumption) ?rp14nf8
              case yp14nf8 => (intro w hSw; (try dsimp only at hSw); obtain ⟨s1, s2, s3⟩ := hSw; go_simp; (try with_reducible rfl))
              try simp only [Act.put, List.getElem_toArray, List.getElem_cons_zero, List.getElem_cons_succ, List.setIfInBounds_toArray, List.set_cons_zero, List.set_cons_succ]
              refine wpAnyH_take (i := 8) (v := ?vp14nf9) rfl (by kernel_rfl) (by kernel_rfl) (by kernel_rfl) (fun _ _ _ h => h) (Or.inl ⟨by kernel_rfl, ?yp14nf9⟩) (by assumption) ?rp14nf9
              case yp14nf9 => (intro w hSw; (try dsimp only at hSw); obtain ⟨s1, s2, s3⟩ := hSw; go_simp; (try with_reducible rfl))
              try simp only [Act.put, List.getElem_toArray, List.getElem_cons_zero, List.getElem_cons_succ, List.setIfInBounds_toArray, List.set_cons_zero, List.set_cons_succ]
              refine wpAnyH_take (i := 9) (v := ?vp14nf10) rfl (by kernel_rfl) (by kernel_rfl) (by kernel_rfl) (fun _ _ _ h => h) (Or.inl ⟨by kernel_rfl, ?yp14nf10⟩) (by assumption) ?rp14nf10
              case yp14nf10 => (intro w hSw; (try dsimp only at hSw); obtain ⟨s1, s2, s3⟩ := hSw; go_simp; (try with_reducible rfl))
              try simp only [Act.put, List.getElem_toArray, List.getElem_cons_zero, List.getElem_cons_succ, List.setIfInBounds_toArray, List.set_cons_zero, List.set_cons_succ]
              refine wpAnyH_take (i := 10) (v := ?vp14nf11) rfl (by kernel_rfl) (by kernel_rfl) (by kernel_rfl) (fun _ _ _ h => h) (Or.inl ⟨by kernel_rfl, ?yp14nf11⟩) (by assumption) ?rp14nf11
              case yp14nf11 => (intro w hSw; (try dsimp only at hSw); obtain ⟨s1, s2, s3⟩ := hSw; go_simp; (try with_reducible rfl))
              try simp only [Act.put, List.getElem_toArray, List.getElem_cons_zero, List.getElem_cons_succ, List.setIfInBounds_toArray, List.set_cons_zero, List.set_cons_succ]
              refine wpAnyH_ready (rs := [11]) (by kernel_rfl) (by simp) ?_
              refine AllReadyH.cons rfl (fun K hK => ?_) AllReadyH.nil
              go_simp
              (with_reducible refine KPq.out.mono ?_)
              rintro e w4 ⟨rfl, h1, h2⟩
              have HBR : Hid (Below W.heap.size wr w4) := by
                by_cases hE : putE cur o.key o.val = 0
                · exact (HBQ.out.drew.mono HR.out.2.1.size).trans ((h1 hE).1.below (Nat.le_trans HR.out.2.1.size (HBQ.out.drew).size))
                · exact ((HBQ.out.drew).trans ((h2 hE).mono (HBQ.out.drew).size)).mono HR.out.2.1.size
              have HPJ : Hid ((putE cur o.key o.val = 0 → Jr W.heap.size w4 J (hs1 ++ [cur]) (putM cur o.key o.val)) ∧ (putE cur o.key o.val ≠ 0 → Jr W.heap.size w4 J hs1 cur)) := ⟨fun h => (h1 h).2.2, fun h => (HR.out.1.on HBQ.out.drew).on (h2 h)⟩
              clear h1 h2
              by_cases hE : putE cur o.key o.val = 0
              · skip
                have HJ4 : Hid (Jr W.heap.size w4 J (hs1 ++ [cur]) (putM cur o.key o.val) ∧ Below W.heap.size W w4) := ⟨HPJ.out.1 hE, HR.out.2.1.trans HBR.out⟩
                have hG : getM (putM cur o.key o.val) key = gv ∧ hasM (putM cur o.key o.val) key = false := by have := ((puts_plain HRC.out o.key o.val).2.2.2.2 key (fun h => HE.out h.symm)).1; exact ⟨this.2.symm.trans HGV.out, this.1.symm.trans HH.out⟩
                rw [hE]
                have HG1 := Lib.hid hG
                clear hG
                have hx4 := (HS.out w4 HBR.out).2.2
                have hsv4 := HSV.out w4 HBR.out
                have HCw := Lib.hid (HS.out w4 HBR.out)
                clear HPJ HBR KPq HCq
                go_wp2_with fail
                refine hK.out _ _ HCw.out (fun hHeld => ?_)
                clear hK K
                refine wpAnyH_take (i := 12) (v := ?vq14nfy1) rfl (by kernel_rfl) (by kernel_rfl) (by kernel_rfl) (fun _ _ _ h => h) (Or.inl ⟨by kernel_rfl, ?yq14nfy1⟩) (by assumption) ?rq14nfy1
                case yq14nfy1 => (intro w hSw; (try dsimp only at hSw); obtain ⟨s1, s2, s3⟩ := hSw; go_simp; (try with_reducible rfl))
                try simp only [Act.put, List.getElem_toArray, List.getElem_cons_zero, List.getElem_cons_succ, List.setIfInBounds_toArray, List.set_cons_zero, List.set_cons_succ]
                refine wpAnyH_take (i := 13) (v := ?vq14nfy2) rfl (by kernel_rfl) (by kernel_rfl) (by kernel_rfl) (fun _ _ _ h => h) (Or.inl ⟨by kernel_rfl, ?yq14nfy2⟩) (by assumption) ?rq14nfy2
                case yq14nfy2 => (intro w hSw; (try dsimp only at hSw); obtain ⟨s1, s2, s3⟩ := hSw; go_simp; (try with_reducible rfl))
                try simp only [Act.put, List.getElem_toArray, List.getElem_cons_zero, List.getElem_cons_succ, List.setIfInBounds_toArray, List.set_cons_zero, List.set_cons_succ]
                refine wpAnyH_take (i := 14) (v := ?vq14nfy3) rfl (by kernel_rfl) (by kernel_rfl) (by kernel_rfl) (fun _ _ _ h => h) (Or.inl ⟨by kernel_rfl, ?yq14nfy3⟩) (by assumption) ?rq14nfy3
                case yq14nfy3 => (intro w hSw; (try dsimp only at hSw); obtain ⟨s1, s2, s3⟩ := hSw; go_simp; (try with_reducible rfl))
                try simp only [Act.put, List.getElem_toArray, List.getElem_cons_zero, List.getElem_cons_succ, List.setIfInBounds_toArray, List.set_cons_zero, List.set_cons_succ]
                refine wpAnyH_take (i := 15) (v := ?vq14nfy4) rfl (by kernel_rfl) (by kernel_rfl) (by kernel_rfl) (fun _ _ _ h => h) (Or.inl ⟨by kernel_rfl, ?yq14nfy4⟩) (by assumption) ?rq14nfy4
                case yq14nfy4 => (intro w hSw; (try dsimp only at hSw); obtain ⟨s1, s2, s3⟩ := hSw; go_simp; (try with_reducible rfl))
                try simp only [Act.put, List.getElem_toArray, List.getElem_cons_zero, List.getElem_cons_succ, List.setIfInBounds_toArray, List.set_cons_zero, List.set_cons_succ]
                refine wpAnyH_done (by kernel_rfl) ?_ _
                have HG := HG1
                rw [HG0.out] at HG
                have KG : Hid (Calls Try.prog 18 #[.pointer (some ⟨J, 0, none⟩), .slice Ak key.length ckk] w4 (GotO w4 [] false)) := by have := HGET.out w4 _ _ HJ4.out.1 HJ4.out.2; rw [HG.out.1, HG.out.2] at this; exact this
                go_wp2_with fail
                (with_reducible refine KG.out.mono ?_)
                rintro e w5 ⟨V, rfl, v1, v2, v3⟩
                have HJ5 : Hid (Jr W.heap.size w5 J ((hs1 ++ [cur])) ((putM cur o.key o.val)) ∧ Below W.heap.size W w5) := ⟨HJ4.out.1.on v3, HJ4.out.2.trans (v3.mono HJ4.out.2.size)⟩
                have hsv := own_SB v1 v2
                have d5 := hsv.str
                obtain ⟨A5, c5, rfl, _⟩ := hsv
                clear v1 v2 v3 KG
                go_wp2
                go_roundw
                case rel => exact ⟨k + 1, (hs1 ++ [cur]), (putM cur o.key o.val), _, by omega, by go_num, by rw [HG.out.2], rfl, by first | omega | (rw [hl]; omega), HJ5.out.1, HJ5.out.2, fun h => by rw [HG.out.2] at h; cases h⟩
                case measure => simp [intOf]; omega
              · skip
                have hE' : (putE cur o.key o.val == 0) = false := by simpa using hE
                have HJ4 : Hid (Jr W.heap.size w4 J hs1 cur ∧ Below W.heap.size W w4) := ⟨HPJ.out.2 hE, HR.out.2.1.trans HBR.out⟩
                have hG : getM cur key = gv ∧ hasM cur key = false := ⟨HGV.out, HH.out⟩
                have HG1 := Lib.hid hG
                clear hG
                have hx4 := (HS.out w4 HBR.out).2.2
                have hsv4 := HSV.out w4 HBR.out
                have HCw := Lib.hid (HS.out w4 HBR.out)
                clear HPJ HBR KPq HCq
                generalize putE cur o.key o.val = E at *
                go_wp2_with fail
                refine hK.out _ _ HCw.out (fun hHeld => ?_)
                clear hK K
                refine wpAnyH_take (i := 12) (v := ?vq14nfx1) rfl (by kernel_rfl) (by kernel_rfl) (by kernel_rfl) (fun _ _ _ h => h) (Or.inl ⟨by kernel_rfl, ?yq14nfx1⟩) (by assumption) ?rq14nfx1
                case yq14nfx1 => (intro w hSw; (try dsimp only at hSw); obtain ⟨s1, s2, s3⟩ := hSw; go_simp; (try with_reducible rfl))
                try simp only [Act.put, List.getElem_toArray, List.getElem_cons_zero, List.getElem_cons_succ, List.setIfInBounds_toArray, List.set_cons_zero, List.set_cons_succ]
                refine wpAnyH_take (i := 13) (v := ?vq14nfx2) rfl (by kernel_rfl) (by kernel_rfl) (by kernel_rfl) (fun _ _ _ h => h) (Or.inl ⟨by kernel_rfl, ?yq14nfx2⟩) (by assumption) ?rq14nfx2
                case yq14nfx2 => (intro w hSw; (try dsimp only at hSw); obtain ⟨s1, s2, s3⟩ := hSw; go_simp; (try with_reducible rfl))
                try simp only [Act.put, List.getElem_toArray, List.getElem_cons_zero, List.getElem_cons_succ, List.setIfInBounds_toArray, List.set_cons_zero, List.set_cons_succ]
                refine wpAnyH_take (i := 14) (v := undef) rfl (by kernel_rfl) (by kernel_rfl) (by kernel_rfl) (fun _ _ _ h => h) (Or.inr ⟨by kernel_rfl, rfl⟩) (by assumption) ?rq14nfx3
                try simp only [Act.put, List.getElem_toArray, List.getElem_cons_zero, List.getElem_cons_succ, List.setIfInBounds_toArray, List.set_cons_zero, List.set_cons_succ]
                refine wpAnyH_take (i := 15) (v := ?vq14nfx4) rfl (by kernel_rfl) (by kernel_rfl) (by kernel_rfl) (fun _ _ _ h => h) (Or.inl ⟨by kernel_rfl, ?yq14nfx4⟩) (by assumption) ?rq14nfx4
                case yq14nfx4 => (intro w hSw; (try dsimp only at hSw); obtain ⟨s1, s2, s3⟩ := hSw; go_simp; (try with_reducible rfl))
                try simp only [Act.put, List.getElem_toArray, List.getElem_cons_zero, List.getElem_cons_succ, List.setIfInBounds_toArray, List.set_cons_zero, List.set_cons_succ]
                refine wpAnyH_done (by kernel_rfl) ?_ _
                have HG := HG1
                rw [HG0.out] at HG
                have KG : Hid (Calls Try.prog 18 #[.pointer (some ⟨J, 0, none⟩), .slice Ak key.length ckk] w4 (GotO w4 [] false)) := by have := HGET.out w4 _ _ HJ4.out.1 HJ4.out.2; rw [HG.out.1, HG.out.2] at this; exact this
                go_wp2_with fail
                (with_reducible refine KG.out.mono ?_)
                rintro e w5 ⟨V, rfl, v1, v2, v3⟩
                have HJ5 : Hid (Jr W.heap.size w5 J (hs1) (cur) ∧ Below W.heap.size W w5) := ⟨HJ4.out.1.on v3, HJ4.out.2.trans (v3.mono HJ4.out.2.size)⟩
                have hsv := own_SB v1 v2
                have d5 := hsv.str
                obtain ⟨A5, c5, rfl, _⟩ := hsv
                clear v1 v2 v3 KG
                go_wp2
                go_roundw
                case rel => exact ⟨k + 1, hs1, cur, _, by omega, by go_num, by rw [HG.out.2], rfl, by first | omega | (rw [hl]; omega), HJ5.out.1, HJ5.out.2, fun h => by rw [HG.out.2] at h; cases h⟩
                case measure => simp [intOf]; omega
            | false =>
              have KDq := Lib.hid (KD.out wq HBQ.out)
              have hx3 := (HS.out wq (HBQ.out.mono HR.out.2.1.size)).2.1
              go_wp2_with fail
              (with_reducible refine KDq.out.mono ?_)
              rintro e w4 ⟨rfl, o4, _, j4⟩
              have HJ4 : Hid (Jr W.heap.size w4 J (hs1 ++ [cur]) (delM cur o.key) ∧ Below W.heap.size W w4) := ⟨j4, (HR.out.2.1.trans (HBQ.out.mono HR.out.2.1.size)).trans (o4.below (Nat.le_trans HR.out.2.1.size HBQ.out.size))⟩
              have hG : getM (delM cur o.key) key = gv ∧ hasM (delM cur o.key) key = false := by have := del_other HRC.out (k := o.key) (o := key) (fun h => HE.out h.symm); exact ⟨this.2.trans HGV.out, this.1.trans HH.out⟩
              clear o4 j4 KDq
              have HG := Lib.hid hG
              clear hG
              rw [HG0.out] at HG
              have KG : Hid (Calls Try.prog 18 #[.pointer (some ⟨J, 0, none⟩), .slice Ak key.length ckk] w4 (GotO w4 [] false)) := by have := HGET.out w4 _ _ HJ4.out.1 HJ4.out.2; rw [HG.out.1, HG.out.2] at this; exact this
              go_wp2_with fail
              (with_reducible refine KG.out.mono ?_)
              rintro e w5 ⟨V, rfl, v1, v2, v3⟩
              have HJ5 : Hid (Jr W.heap.size w5 J ((hs1 ++ [cur])) ((delM cur o.key)) ∧ Below W.heap.size W w5) := ⟨HJ4.out.1.on v3, HJ4.out.2.trans (v3.mono HJ4.out.2.size)⟩
              have hsv := own_SB v1 v2
              have d5 := hsv.str
              obtain ⟨A5, c5, rfl, _⟩ := hsv
              clear v1 v2 v3 KG
              go_wp2
              go_roundw
              case rel => exact ⟨k + 1, (hs1 ++ [cur]), (delM cur o.key), _, by omega, by go_num, by rw [HG.out.2], rfl, by first | omega | (rw [hl]; omega), HJ5.out.1, HJ5.out.2, fun h => by rw [HG.out.2] at h; cases h⟩
              case measure => simp [intOf]; omega
      · obtain rfl : k = ops.length := by omega
        go_wp2
        go_ret
        exact ⟨rfl, HR.out.2.1⟩
end Go.Proofs.Ytncbbjodianmoaa
