/- What the document has Get and Del return. Conditions: what is read lies in memory; rows and byte strings are not too great. -/
import Derived.Test.YtncbbjodianmoaaSl
namespace Go.Proofs.Ytncbbjodianmoaa
open Go.RowKit
set_option linter.unusedSimpArgs false
set_option linter.unusedVariables false

set_option maxHeartbeats 1600000 in
theorem refGetC (A : Option Addr) (ls : List PR) (c : Nat) (Ak : Option Addr) (key : List Int) (ck : Nat) (w : World) (hp : Prs w w.heap.size A c ls) (hc : ls.length ≤ c) (hm : c ≤ maxLen) (hk : SB w w.heap.size (.slice Ak key.length ck) key) (hs : Sml ls) :
    Calls Try.prog 40 #[.slice A ls.length c, .slice Ak key.length ck] w (GotO w (getM ls key) (hasM ls key)) := by
  have K1 := Lib.hid (findC A ls c Ak key ck w hp hc hm hk)
  have HP := Lib.hid hp
  clear hp hk
  unfold maxLen at hm
  obtain ⟨i0, hi, hz0, hz1, hz2⟩ := info_parts info5
  by_cases hf : fnd key ls < ls.length
  · have h0 : idxV (fun p => p.1 == key) ls = (fnd key ls : Nat) := if_pos hf
    obtain ⟨v, hv⟩ := fnd_at hf
    have hg : getM ls key = v := by unfold getM; rw [List.getD, hv]; rfl
    have hh : hasM ls key = true := by unfold hasM; simpa using hf
    have hsm := hs.2 _ (List.mem_of_getElem? hv)
    have hvl : v.length ≤ 200000 := hsm.2
    rw [hg, hh]
    rw [h0] at K1
    clear h0 hg hh hs hsm
    generalize fnd key ls = q at *
    go_enter Try.func40, Try.ntmps40
    go_wp2_with fail
    (with_reducible refine K1.out.mono ?_)
    clear K1
    rintro e w1 ⟨rfl, hb⟩
    have B1 := Lib.hid hb
    have hba := below_alloc w1 (.cells #[] 5)
    obtain ⟨b, o, Au, cu, Av, cv, rfl, c1, c2, s1, s2, _⟩ := ((HP.out.on hb).on hba).at hv
    have HV := Lib.hid s2.byt
    have HL : Hid (Lies (w1.alloc (.cells #[] 5)) (w1.alloc (.cells #[] 5)).heap.size Av cv (cellsOf v)) := by
      obtain ⟨_, _, e2, _, _, g2, _⟩ := s2
      injection e2 with e2 _ e2'
      subst e2 e2'
      exact g2
    have HO := Lib.hid (own_empty w1)
    clear hb hba hv s1 s2 c1
    go_wp2_with (at_builtin; refine wpList_append_lies rfl (.tmp 12) (.tmp 17) 30 rfl w1.heap.size 5 i0 (.int .u8 0) 1 Try.underlying30 hi hz0 hz1 hz2 rfl _ 0 [] rfl HO.out (w1.alloc (.cells #[] 5)).heap.size Av v.length cv (cellsOf v) rfl (by simp) HL.out (bytes_oneCell v) (by unfold maxLen; omega) (by omega) (by simp) ?_; intro v2 w2 ho2 hg2)
    have HF : Hid (w2.ownsRow w.heap.size 5 1 v2 v.length (cellsOf v) ∧ Below w.heap.size w w2) := ⟨own_mono (own_eq ho2 (by omega) (by simp)) B1.out.size, B1.out.trans (((Below.refl w1.heap.size w1).alloc (Nat.le_refl _) _).grown hg2 (by simp) (fun k hk => (HO.out.lt k hk).1) |>.mono B1.out.size)⟩
    clear ho2 hg2
    go_ret2
    exact ⟨v2, rfl, HF.out.1, HV.out, HF.out.2⟩
  · have h0 : idxV (fun p => p.1 == key) ls = -1 := if_neg hf
    have hg : getM ls key = [] := by unfold getM; rw [List.getD, List.getElem?_eq_none (by omega)]; rfl
    have hh : hasM ls key = false := by unfold hasM; simpa using hf
    rw [hg, hh]
    rw [h0] at K1
    clear h0 hg hh hs hf
    go_enter Try.func40, Try.ntmps40
    go_wp2_with fail
    (with_reducible refine K1.out.mono ?_)
    clear K1
    rintro e w1 ⟨rfl, hb⟩
    have B1 := Lib.hid hb
    clear hb
    go_wp2
    go_ret2
    exact ⟨_, rfl, World.ownsRow_nil _ _ _ _, Byt.nil, B1.out⟩

theorem own_cut {w : World} {base : Nat} {e : TypeId} {size : Nat} {A : Option Addr} {n c : Nat} {xs : List Value} (h : w.ownsRow base e size (.slice A n c) n xs) {i : Nat} (hi : i ≤ n) : w.ownsRow base e size (.slice A i c) i (xs.take (i * size)) := by
  have hl := h.1
  have hle : i * size ≤ n * size := Nat.mul_le_mul_right _ hi
  refine ⟨by rw [List.length_take]; omega, ?_⟩
  rcases h.2 with ⟨h1, h2⟩ | ⟨g, cap, cur, h1, hb, hg, hn, hm, hs, ht⟩
  · injection h1 with e1 e2 e3
    subst e1 e3
    obtain rfl : i = 0 := by omega
    exact .inl ⟨rfl, rfl⟩
  · injection h1 with e1 e2 e3
    subst e1 e3
    refine .inr ⟨g, _, cur, rfl, hb, hg, by omega, hm, hs, ?_⟩
    rw [← ht, List.take_take, Nat.min_eq_left hle]
theorem own_empty42 (w : World) : (w.alloc (.cells #[] 47)).ownsRow w.heap.size 47 2 (.slice (some ⟨w.heap.size, 0, none⟩) 0 0) 0 [] :=
  World.ownsRow_made w #[] 0 (Nat.le_refl _) (Nat.zero_le _) rfl

set_option maxHeartbeats 1600000 in
theorem refDelC (A : Option Addr) (ls : List PR) (c : Nat) (Ak : Option Addr) (key : List Int) (ck : Nat) (w : World) (hp : Prs w w.heap.size A c ls) (hc : ls.length ≤ c) (hm : c ≤ maxLen) (hk : SB w w.heap.size (.slice Ak key.length ck) key) (hs : Sml ls) :
    Calls Try.prog 37 #[.slice A ls.length c, .slice Ak key.length ck] w (NewR w (delM ls key)) := by
  have K1 := Lib.hid (findC A ls c Ak key ck w hp hc hm hk)
  have HP := Lib.hid hp
  have hsl := hs.1
  clear hp hk
  unfold maxLen at hm
  by_cases hf : fnd key ls < ls.length
  · have h0 : idxV (fun p => p.1 == key) ls = (fnd key ls : Nat) := if_pos hf
    have HDM : Hid (ls.take (fnd key ls) ++ ls.drop (fnd key ls + 1) = delM ls key) := rfl
    have hdl : (delM ls key).length ≤ 200000 := (sml_delM hs key).1
    have HDL := Lib.hid hdl
    rw [h0] at K1
    clear h0 hs hdl
    generalize fnd key ls = q at *
    obtain ⟨i0, hi, hz0, hz1, hz2⟩ := info_parts info42
    go_enter Try.func37, Try.ntmps37
    go_wp2_with fail
    (with_reducible refine K1.out.mono ?_)
    clear K1
    rintro e w1 ⟨rfl, hb⟩
    have B1 := Lib.hid hb
    have hba := below_alloc w1 (.cells #[] 47)
    have HP1 := HP.out.on hb
    have hst : ∃ b o, A = some ⟨b, o, none⟩ := by
      obtain ⟨b, o, _, _, h, _⟩ := HP1.get (List.getElem?_eq_getElem hf)
      exact ⟨b, o, h⟩
    obtain ⟨b, o, hst⟩ := hst
    subst hst
    obtain ⟨vs, hl, hps⟩ := HP1
    have HS : Hid (vs.length = ls.length * 2 ∧ (∀ (j : Nat) (u : Value), vs[j]? = some u → (w1.alloc (.cells #[] 47)).cell? ((Addr.mk b o none).add j) = some u) ∧ (∀ u ∈ vs, u.oneCell' = true) ∧ PsC w1 w1.heap.size ls vs) := by
      refine ⟨hps.len, fun j u hu => ?_, hps.one, hps⟩
      obtain ⟨ad, e', _, hcc⟩ := (hl.below hba).2 j u hu
      injection e' with e'
      subst e'
      exact hcc
    have HO := Lib.hid (own_empty42 w1)
    clear hb hba hl hps
    go_wp2_with (at_builtin; refine wpList_append_own _ rfl (.tmp 10) (.tmp 11) 22 rfl w1.heap.size 47 i0 _ 2 48 Try.underlying22 hi hz0 hz1 hz2 rfl (by omega) _ 0 [] rfl HO.out ⟨b, o, none⟩ ls.length c vs rfl HS.out.1 HS.out.2.1 HS.out.2.2.1 (by unfold maxLen; omega) (by omega) (by simp) ?_; intro v2 w2 ho2 hg2 _)
    have HB2 : Hid (Below w1.heap.size w1 w2) := ((Below.refl w1.heap.size w1).alloc (Nat.le_refl _) _).grown hg2 (by simp) (fun k hk => (HO.out.lt k hk).1)
    have ho3 : w2.ownsRow w1.heap.size 47 2 v2 ls.length vs := by simpa using ho2
    obtain ⟨A2, c2, rfl, k1, k2, k3⟩ := own_liesS ho3
    have HDx : Hid (DstF w2.drew w1.heap.size w1.heap.size (.slice A2 q c2) (ls.take q)) := by
      have hb2 : Below w1.heap.size w1 w2.drew := HB2.out.drew
      refine ⟨vs.take (q * 2), (HS.out.2.2.2.low hb2).take q, ?_⟩
      have := own_cut (own_belowS ho3 (Below.refl _ _).drew) (Nat.le_of_lt hf)
      rw [show (ls.take q).length = q by rw [List.length_take]; omega]
      exact this
    have HX : Hid (Src w2.drew w1.heap.size (if c = q + 1 then some ⟨b, o, none⟩ else (some (Addr.mk b o none)).map (fun x => x.add ((q + 1) * 2))) (c - (q + 1)) (ls.drop (q + 1))) := .of ((((HP.out.on B1.out).part (q + 1) hc).below HB2.out.drew))
    have HBx := Lib.hid (B1.out.trans (HB2.out.mono B1.out.size))
    have HBx1 := Lib.hid B1.out.size
    unfold maxLen at k2
    have f1 : q ≤ c2 := by omega
    have f2 : q + 1 ≤ ls.length := by omega
    have f3 : q + 1 ≤ c := by omega
    have ew : IntKind.i64.wrap ((q : Int) + 1) = (q : Int) + 1 := IntWalk.i64_in _ (by omega)
    have f4 : ((q : Int) + 1).toNat = q + 1 := by omega
    have f5 : (0 : Int) ≤ (q : Int) + 1 := by omega
    have f6 : (q : Int) + 1 ≤ (ls.length : Int) := by omega
    clear ho2 ho3 hg2 k3
    go_wp2_with fail
    refine wp_region_held_drew (S := fun w' => True) (by kernel_rfl) trivial (fun hHeld => ?_)
    refine wpAnyH_take (i := 0) (v := ?vd1) rfl (by kernel_rfl) (by kernel_rfl) (by kernel_rfl) (fun _ _ _ h => h) (Or.inl ⟨by kernel_rfl, ?yd1⟩) (by assumption) ?rd1
    case yd1 => (intro w hSw; (try dsimp only at hSw); go_simp; (try with_reducible rfl))
    try simp only [Act.put, List.getElem_toArray, List.getElem_cons_zero, List.getElem_cons_succ, List.setIfInBounds_toArray, List.set_cons_zero, List.set_cons_succ]
    refine wpAnyH_take (i := 1) (v := ?vd2) rfl (by kernel_rfl) (by kernel_rfl) (by kernel_rfl) (fun _ _ _ h => h) (Or.inl ⟨by kernel_rfl, ?yd2⟩) (by assumption) ?rd2
    case yd2 => (intro w hSw; (try dsimp only at hSw); go_simp; (try with_reducible rfl))
    try simp only [Act.put, List.getElem_toArray, List.getElem_cons_zero, List.getElem_cons_succ, List.setIfInBounds_toArray, List.set_cons_zero, List.set_cons_succ]
    refine wpAnyH_take (i := 2) (v := ?vd3) rfl (by kernel_rfl) (by kernel_rfl) (by kernel_rfl) (fun _ _ _ h => h) (Or.inl ⟨by kernel_rfl, ?yd3⟩) (by assumption) ?rd3
    case yd3 => (intro w hSw; (try dsimp only at hSw); go_simp; (try with_reducible rfl))
    try simp only [Act.put, List.getElem_toArray, List.getElem_cons_zero, List.getElem_cons_succ, List.setIfInBounds_toArray, List.set_cons_zero, List.set_cons_succ]
    refine wpAnyH_take (i := 3) (v := ?vd4) rfl (by kernel_rfl) (by kernel_rfl) (by kernel_rfl) (fun _ _ _ h => h) (Or.inl ⟨by kernel_rfl, ?yd4⟩) (by assumption) ?rd4
    case yd4 => (intro w hSw; (try dsimp only at hSw); go_simp; (try with_reducible rfl))
    try simp only [Act.put, List.getElem_toArray, List.getElem_cons_zero, List.getElem_cons_succ, List.setIfInBounds_toArray, List.set_cons_zero, List.set_cons_succ]
    refine wpAnyH_take (i := 4) (v := ?vd5) rfl (by kernel_rfl) (by kernel_rfl) (by kernel_rfl) (fun _ _ _ h => h) (Or.inl ⟨by kernel_rfl, ?yd5⟩) (by assumption) ?rd5
    case yd5 => (intro w hSw; (try dsimp only at hSw); go_simp; (try with_reducible rfl))
    try simp only [Act.put, List.getElem_toArray, List.getElem_cons_zero, List.getElem_cons_succ, List.setIfInBounds_toArray, List.set_cons_zero, List.set_cons_succ]
    refine wpAnyH_take (i := 5) (v := ?vd6) rfl (by kernel_rfl) (by kernel_rfl) (by kernel_rfl) (fun _ _ _ h => h) (Or.inl ⟨by kernel_rfl, ?yd6⟩) (by assumption) ?rd6
    case yd6 => (intro w hSw; (try dsimp only at hSw); go_simp; (try with_reducible rfl))
    try simp only [Act.put, List.getElem_toArray, List.getElem_cons_zero, List.getElem_cons_succ, List.setIfInBounds_toArray, List.set_cons_zero, List.set_cons_succ]
    refine wpAnyH_take (i := 6) (v := ?vd7) rfl (by kernel_rfl) (by kernel_rfl) (by kernel_rfl) (fun _ _ _ h => h) (Or.inl ⟨by kernel_rfl, ?yd7⟩) (by assumption) ?rd7
    case yd7 => (intro w hSw; (try dsimp only at hSw); go_simp; (try with_reducible rfl))
    try simp only [Act.put, List.getElem_toArray, List.getElem_cons_zero, List.getElem_cons_succ, List.setIfInBounds_toArray, List.set_cons_zero, List.set_cons_succ]
    refine wpAnyH_ready (rs := [7]) (by kernel_rfl) (by simp) ?_
    refine AllReadyH.cons rfl (fun K hK => ?_) AllReadyH.nil
    rw [if_pos (by rfl)]
    refine HDx.out.wp (Nat.le_refl _) HB2.out.size (.tmp 18) (.tmp 22) rfl rfl rfl HX.out (by rw [List.length_drop]) (by rw [List.length_take, List.length_drop]; omega) ?_
    intro v5 w5 hD5 hb5
    have HD5 : Hid (DstF w5 w1.heap.size w1.heap.size v5 (delM ls key) ∧ Below w.heap.size w w5 ∧ w1.heap.size ≤ w5.heap.size) := ⟨by rw [← HDM.out]; exact hD5, HBx.out.trans (((Below.refl _ _).drew.trans (hb5)).mono HBx1.out), Nat.le_trans HB2.out.size ((Below.refl _ _).drew.trans hb5).size⟩
    refine hK.out _ _ trivial (fun hHeld => ?_)
    clear hK K hD5 hb5
    try simp only [Act.put, List.getElem_toArray, List.getElem_cons_zero, List.getElem_cons_succ, List.setIfInBounds_toArray, List.set_cons_zero, List.set_cons_succ]
    have hHeld : True := trivial
    refine wpAnyH_take (i := 8) (v := ?vd8) rfl (by kernel_rfl) (by kernel_rfl) (by kernel_rfl) (fun _ _ _ h => h) (Or.inl ⟨by kernel_rfl, ?yd8⟩) (by assumption) ?rd8
    case yd8 => (intro w hSw; (try dsimp only at hSw); go_simp; (try with_reducible rfl))
    try simp only [Act.put, List.getElem_toArray, List.getElem_cons_zero, List.getElem_cons_succ, List.setIfInBounds_toArray, List.set_cons_zero, List.set_cons_succ]
    refine wpAnyH_done (by kernel_rfl) ?_ _
    clear ew f4 f5 f6 hHeld
    go_wp2
    all_goals
      obtain ⟨A6, c6, e6, k1, k2, k3, k4⟩ := HD5.out.1.prs HD5.out.2.2 (by have := HDL.out; omega)
      go_ret
      exact ⟨A6, c6, by rw [← e6]; rfl, k1, k2, k3, k4, HD5.out.2.1⟩
  · have h0 : idxV (fun p => p.1 == key) ls = -1 := if_neg hf
    have hd : delM ls key = ls := by
      unfold delM
      rw [List.take_of_length_le (by omega), List.drop_eq_nil_of_le (by omega), List.append_nil]
    rw [hd]
    rw [h0] at K1
    clear h0 hf hd
    go_enter Try.func37, Try.ntmps37
    go_wp2_with fail
    (with_reducible refine K1.out.mono ?_)
    clear K1
    rintro e w1 ⟨rfl, hb⟩
    have B1 := Lib.hid hb
    have hba := below_alloc w1 (.cells #[] 47)
    have HD : Hid (DstF (w1.alloc (.cells #[] 47)) w1.heap.size w1.heap.size (.slice (some ⟨w1.heap.size, 0, none⟩) 0 0) []) := ⟨[], .nil, own_empty42 w1⟩
    have HX : Hid (Src (w1.alloc (.cells #[] 47)) w1.heap.size A c ls) := .of ((HP.out.on hb).below hba)
    have HB1 := Lib.hid hba
    clear hb hba
    go_wp2_with (at_builtin; refine HD.out.wpList (Nat.le_refl _) (by simp) rfl (.tmp 10) (.tmp 11) rfl rfl rfl HX.out rfl (by simp; omega) ?_; intro v2 w2 hD2 hb2)
    have HF : Hid (DstF w2 w1.heap.size w1.heap.size v2 ls ∧ Below w1.heap.size w1 w2) := ⟨by simpa using hD2, HB1.out.trans hb2⟩
    clear hD2 hb2
    obtain ⟨A6, c6, rfl, k1, k2, k3, k4⟩ := HF.out.1.prs HF.out.2.size (by omega)
    have HG : Hid (ls.length ≤ c6 ∧ c6 ≤ maxLen ∧ Prs w2 w2.heap.size A6 c6 ls ∧ RowF w2 A6 ∧ Below w.heap.size w w2) := ⟨k1, k2, k3, k4, B1.out.trans (HF.out.2.mono B1.out.size)⟩
    clear k1 k2 k3 k4
    go_wp2
    go_ret
    exact ⟨A6, c6, rfl, HG.out⟩
end Go.Proofs.Ytncbbjodianmoaa
