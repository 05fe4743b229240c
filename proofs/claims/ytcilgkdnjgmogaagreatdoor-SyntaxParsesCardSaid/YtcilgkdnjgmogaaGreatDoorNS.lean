/- The document's own reading of a program. -/
import Derived.Test.YtcilgkdnjgmogaaGreatDoorNR
namespace Go.Proofs.YtcilgkdnjgmogaaGreatDoor
section
open Go.RowKit
set_option maxRecDepth 100000
set_option linter.unusedSimpArgs false
set_option linter.unusedVariables false
set_option maxHeartbeats 1600000 in
theorem w_for (R : Nat) (S : Src) (hsm : S.all.length ≤ 4096) (d : Nat) (e : Par Ex) (b : Par (List St)) (he : ExprR R S (d + 1) e) (hd : d ≤ 32) (hb : BlkR R S d b) (h33 : d = 32 → ∀ ts, ∃ c p, e ts = .bad c p) (σ σa : Res Unit) (w : World) (ha : Rs w R S σ) (hn0 : isR S.z kLet σ = false) (hn1 : isR S.z kIf σ = false) (hT : isR S.z kFor σ = true) (hσ : passR S.z kFor σ = σa) (m : Res St) (hm : ∀ P, (∀ u ts, σ = .ok u ts → P = (peekT S.z ts).place) → m = (σa.bind fun _ ts => setP S.z e ts).bind fun x r => (wantT S.z kTo r).bind fun _ r' => (e r').bind fun y q => (b q).bind fun l q' => .ok (.mk 4 x.1 [x.2, y] l [] P) q') :
  Calls Tryz.prog 125 #[.pointer (some ⟨R, 0, none⟩), .int .i64 d] w (RGot R S (QSt w.heap.size) w m) := by
 have HR := Lib.hid ha.lt
 have HE := Lib.hid he
 have HM0 := Lib.hid hm
 have HN0 := Lib.hid hn0
 have HN1 := Lib.hid hn1
 have HT := Lib.hid hT
 have HSa := Lib.hid hσ
 have HBk := Lib.hid hb
 have H33 := Lib.hid h33
 clear hb h33
 have h0 := open_one ha stZ
 have K := Lib.hid (rplaceR R S σ _ h0.1)
 have HA := Lib.hid h0
 obtain ⟨i0, hi, hz0, hz1, hz2⟩ := info_parts info39
 have hwrap : IntKind.i64.wrap ((d : Int) + 1) = (d : Int) + 1 := IntWalk.i64_in _ (by omega)
 clear ha he hm h0 hn0 hn1 hT hσ
 unfold stZ at HA K
 go_enter Tryz.func125, Tryz.ntmps125
 go_wp2_with fail
 generalize hw0 : w.alloc (.cells #[.int .i64 0, .string ⟨#[]⟩, .slice none 0 0, .slice none 0 0, .slice none 0 0, .int .i64 0] 145) = w0 at *
 clear hw0
 (with_reducible refine K.out.mono ?_)
 clear K
 rintro x w1 ⟨P, rfl, hP, b1⟩
 have HM := Lib.hid (HM0.out P hP)
 have HS : Hid (SvC R S w w1.heap.size w.heap.size (w1.heap.size + 1) 0 [] [] (.slice none 0 0) (.slice none 0 0) (.slice none 0 0) P σ (w1.alloc (stB P))) := by
  have hz := HA.out.2.2.2.1
  have hsz := b1.size
  have h1 := HA.out.1.below b1 (Nat.le_refl _)
  have o1 := open_one h1 (stB P)
  have h2 : SvC R S w w1.heap.size w.heap.size (w1.alloc (stB P)).heap.size 0 [] [] (.slice none 0 0) (.slice none 0 0) (.slice none 0 0) P σ (w1.alloc (stB P)) := SvC.start o1.1 (VarAt.block (cs := [.int .i64 0, .string (strN []), .slice none 0 0, .slice none 0 0, .slice none 0 0, .int .i64 P]) (T := 145) o1.2.2.1) (((Moves.of_below HA.out.2.1 (Nat.le_refl _)).below b1 (Nat.le_refl _)).below o1.2.1 (Nat.le_refl _)) (by rw [o1.2.1.block _ (by omega), b1.block _ (by omega)]; exact HA.out.2.2.1) HR.out ⟨by omega, by simp⟩ ⟨Nat.le_refl _, by simp; omega⟩ (by omega)
  rw [o1.2.2.2.1] at h2
  exact h2
 have hRlo : R < w1.heap.size + 1 := by have := HR.out; have := HA.out.2.2.2.1; have := b1.size; omega
 have HLw : Hid (w.heap.size < w1.heap.size) := by have := HA.out.2.2.2.1; have := b1.size; show _ < _; omega
 clear HA HM0 hP b1
 go_wp2_with fail
 generalize w1.alloc (.cells #[.int .i64 0, .string ⟨#[]⟩, .slice none 0 0, .slice none 0 0, .slice none 0 0, .int .i64 (P : Int)] 145) = w2 at *
 have K := Lib.hid (rtake R S σ kLet ⟨#[108, 101, 116]⟩ w2 HS.out.st (by kernel_rfl) (by unfold Byn; decide))
 rw [HN0.out, pass_false HN0.out] at K
 (with_reducible refine K.out.mono ?_)
 clear K
 rintro x v1 ⟨rfl, h1, h2⟩
 have HC1 := Lib.hid (HS.out.moves h1 h2)
 clear h1 h2 HS
 go_wp2_with fail
 have K := Lib.hid (rtake R S σ kIf ⟨#[105, 102]⟩ v1 HC1.out.st (by kernel_rfl) (by unfold Byn; decide))
 rw [HN1.out, pass_false HN1.out] at K
 (with_reducible refine K.out.mono ?_)
 clear K
 rintro x v2 ⟨rfl, h1, h2⟩
 have HC2 := Lib.hid (HC1.out.moves h1 h2)
 clear h1 h2 HC1
 go_wp2_with fail
 have K := Lib.hid (rtake R S σ kFor ⟨#[102, 111, 114]⟩ v2 HC2.out.st (by kernel_rfl) (by unfold Byn; decide))
 rw [HT.out, HSa.out] at K
 (with_reducible refine K.out.mono ?_)
 clear K
 rintro x v3 ⟨rfl, h1, h2⟩
 have HC3 := Lib.hid (HC2.out.moves h1 h2)
 clear h1 h2 HC2
 obtain ⟨τ, hτ⟩ : ∃ τ, τ = (σa.bind fun _ ts => takeT S.z 1 ts) := ⟨_, rfl⟩
 obtain ⟨σ2, hσ2⟩ : ∃ σ2, σ2 = mustR S.z [61] τ.unit := ⟨_, rfl⟩
 obtain ⟨σ3, hσ3⟩ : ∃ σ3, σ3 = (σ2.bind fun _ ts => e ts).unit := ⟨_, rfl⟩
 obtain ⟨σ4, hσ4⟩ : ∃ σ4, σ4 = mustR S.z kTo σ3 := ⟨_, rfl⟩
 obtain ⟨σ5, hσ5⟩ : ∃ σ5, σ5 = (σ4.bind fun _ ts => e ts).unit := ⟨_, rfl⟩
 obtain ⟨σ6, hσ6⟩ : ∃ σ6, σ6 = (σ5.bind fun _ ts => b ts).unit := ⟨_, rfl⟩
 have HK1 : Hid (∀ w', Rs w' R S σ5 → Calls Tryz.prog 73 #[.pointer (some ⟨R, 0, none⟩), .int .i64 ((d : Int) + 1)] w' (RGot R S (QB w'.heap.size) w' (σ5.bind fun _ ts => b ts))) := fun w' h => HBk.out σ5 w' h fun hd => by rw [hσ5]; exact bad_e H33.out σ4 hd
 have HU : Hid (m.unit = σ6) := by show _ = _; rw [HM.out, hσ6, hσ5, hσ4, hσ3, hσ2, hτ, for_eq, then_unit, then_unit, one_unit, set_unit]
 have HVa : Hid (∀ a r, m = .ok a r → ∃ t r1 x r2 y r4 l r5, τ = .ok t r1 ∧ (σ2.bind fun _ ts => e ts) = .ok x r2 ∧ (σ4.bind fun _ ts => e ts) = .ok y r4 ∧ (σ5.bind fun _ ts => b ts) = .ok l r5 ∧ a = .mk 4 t.text [x, y] l [] P) := fun a r h => by
  rw [HM.out, for_eq] at h
  obtain ⟨xy, r0, l, h1, h2, h3⟩ := then_val h
  obtain ⟨x, r3, y, h4, h5, h6⟩ := then_val h1
  rw [then_unit, one_unit, set_unit] at h2
  rw [one_unit, set_unit] at h5
  obtain ⟨x', r6, h7, h8⟩ := one_val h4
  obtain ⟨t, r1, r2, h9, h10, h11⟩ := set_val h7
  exact ⟨t, r1, x'.2, r2, y, r0, l, r, by rw [hτ]; exact h9, by rw [hσ2, hτ]; exact h10, by rw [hσ4, hσ3, hσ2, hτ]; exact h5, by rw [hσ5, hσ4, hσ3, hσ2, hτ]; exact h2, by rw [h3, h6, h8, h11]⟩
 have HT1 := Lib.hid hτ
 have HT2 := Lib.hid hσ2
 have HT3 := Lib.hid hσ3
 have HT4 := Lib.hid hσ4
 have HT5 := Lib.hid hσ5
 have HT6 := Lib.hid hσ6
 clear hτ hσ2 hσ3 hσ4 hσ5 hσ6 HM
 have f0 := HC3.out.cells
 have c0 := f0.1.1
 have b0 := f0.2.1
 clear f0
 have HC4 := Lib.hid (HC3.out.set0 4)
 go_wp2_with fail
 generalize v3.setCell ⟨w1.heap.size, 0, none⟩ (.int .i64 4) = v4 at *
 clear c0 b0 HC3
 have K : Hid (Calls Tryz.prog 69 #[.pointer (some ⟨R, 0, none⟩), .int .i64 1] v4 (RGot R S QT v4 τ)) := by rw [HT1.out]; exact rkind R S σa 1 (by omega) v4 HC4.out.st
 (with_reducible refine K.out.mono ?_)
 clear K
 rintro x v5 ⟨m3, ⟨t, xv, rfl, hq, hv⟩, r3⟩
 have hq' : xv = tokV t := hq
 subst hq'
 have HC5 := Lib.hid (HC4.out.moves m3 r3)
 have HVt := Lib.hid hv
 clear m3 r3 hq hv HC4
 simp only [tokV, tokC]
 have f0 := HC5.out.cells
 have c0 := f0.1.2.1
 have b0 := f0.2.2.1
 clear f0
 have hf := fun w' => (run_field77 w' t).2
 have HD5 := Lib.hid (HC5.out.set1 t.text)
 go_wp2_with fail
 clear hf
 generalize v5.setCell ⟨w1.heap.size, 1, none⟩ (.string (strN t.text)) = u5 at *
 clear c0 b0 HC5
 have K := Lib.hid (rmust R S τ.unit [61] ⟨#[61]⟩ u5 HD5.out.st (by kernel_rfl) (by unfold Byn; decide))
 rw [← HT2.out] at K
 (with_reducible refine K.out.mono ?_)
 clear K
 rintro x v6 ⟨rfl, h1, h2⟩
 have HC6 := Lib.hid (HD5.out.moves h1 h2)
 clear h1 h2 HD5
 go_wp2_with fail
 go_upto_region 19 with fail
 have K0 : Hid (∀ w1, Rs w1 R S σ2 → Calls Tryz.prog 150 #[.pointer (some ⟨R, 0, none⟩), .int .i64 ((d : Int) + 1)] w1 (RGot R S (QE w1.heap.size) w1 (σ2.bind fun _ ts => e ts))) := fun w1 h => HE.out _ w1 h
 go_cut [] (fun wx => ∃ (v : Ex) (A' : Option Addr) (c' : Nat), Hid (SvC R S w w1.heap.size w.heap.size (w1.heap.size + 1) 4 t.text [v] (.slice A' 1 c') (.slice none 0 0) (.slice none 0 0) P (σ2.bind fun _ ts => e ts).unit wx) ∧ Hid (∀ a r, (σ2.bind fun _ ts => e ts) = .ok a r → v = a))
 case first =>
  have HD := Lib.hid (HC6.out.moves (w' := v6.drew) ⟨rfl, rfl, rfl, Nat.le_refl _, fun _ _ _ => rfl⟩ (HC6.out.st.below ((Below.refl v6.heap.size v6).drew) (Nat.le_refl _)))
  refine wp_region_held_drew (S := fun _ => True) (by kernel_rfl) trivial (fun hHeld => ?_)
  refine wpAnyH_take (i := 0) (v := ?vp85_0) rfl (by kernel_rfl) (by kernel_rfl) (by kernel_rfl) (fun _ _ _ h => h) (Or.inl ⟨by kernel_rfl, ?yp85_0⟩) (by assumption) ?rp85_0
  case yp85_0 => (intro w hSw; (try dsimp only at hSw); go_simp; (try with_reducible rfl))
  try simp only [Act.put, List.getElem_toArray, List.getElem_cons_zero, List.getElem_cons_succ, List.setIfInBounds_toArray, List.set_cons_zero, List.set_cons_succ]
  refine wpAnyH_take (i := 2) (v := ?vp85_2) rfl (by kernel_rfl) (by kernel_rfl) (by kernel_rfl) (fun _ _ _ h => h) (Or.inl ⟨by kernel_rfl, ?yp85_2⟩) (by assumption) ?rp85_2
  case yp85_2 => (intro w hSw; (try dsimp only at hSw); go_simp; (try with_reducible rfl))
  try simp only [Act.put, List.getElem_toArray, List.getElem_cons_zero, List.getElem_cons_succ, List.setIfInBounds_toArray, List.set_cons_zero, List.set_cons_succ]
  refine wpAnyH_take (i := 3) (v := ?vp85_3) rfl (by kernel_rfl) (by kernel_rfl) (by kernel_rfl) (fun _ _ _ h => h) (Or.inl ⟨by kernel_rfl, ?yp85_3⟩) (by assumption) ?rp85_3
  case yp85_3 => (intro w hSw; (try dsimp only at hSw); go_simp; (try with_reducible rfl))
  try simp only [Act.put, List.getElem_toArray, List.getElem_cons_zero, List.getElem_cons_succ, List.setIfInBounds_toArray, List.set_cons_zero, List.set_cons_succ]
  refine wpAnyH_take (i := 4) (v := ?vp85_4) rfl (by kernel_rfl) (by kernel_rfl) (by kernel_rfl) (fun _ _ _ h => h) (Or.inl ⟨by kernel_rfl, ?yp85_4⟩) (by assumption) ?rp85_4
  case yp85_4 => (intro w hSw; (try dsimp only at hSw); go_simp; (try with_reducible rfl))
  try simp only [Act.put, List.getElem_toArray, List.getElem_cons_zero, List.getElem_cons_succ, List.setIfInBounds_toArray, List.set_cons_zero, List.set_cons_succ]
  generalize v6.drew = wd at *
  refine wpAnyH_ready (rs := [1, 5]) (by kernel_rfl) (by simp) ?_
  refine AllReadyH.cons rfl (fun K hK => ?_) (AllReadyH.cons rfl (fun K hK => ?_) AllReadyH.nil)
  ·have hce := HD.out.cells.1.2.2.1
   go_simp
   clear hce
   refine hK.out _ _ trivial (fun hHeld => ?_)
   clear hK K
   refine wpAnyH_ready (rs := [5]) (by kernel_rfl) (by simp) ?_
   refine AllReadyH.cons rfl (fun K hK => ?_) AllReadyH.nil
   go_simp
   (try simp only [hwrap])
   with_reducible refine (K0.out wd HD.out.st).mono ?_
   rintro x wc87 ⟨hm, ⟨v, xv, rfl, hq, hv⟩, r2⟩
   obtain ⟨kk, rfl, hk, hk1⟩ := exV_cells hq
   obtain ⟨Ak, ck, rfl⟩ := exsC_slice hk
   have C87 := Lib.hid (HD.out.moves hm r2)
   have Y87 := Lib.hid (HD.out.apart hk)
   have HV := Lib.hid hv
   clear hm r2 hk hq hk1 hv
   refine hK.out _ _ trivial (fun hHeld => ?_)
   clear hK K
   refine wpAnyH_ready (rs := [6]) (by kernel_rfl) (by simp) ?_
   refine AllReadyH.cons rfl (fun K hK => ?_) AllReadyH.nil
   go_simp
   have mz := Moves.of_below (R := R) (below_alloc wc87 (exO v (.slice Ak v.kids.length ck))) (Nat.le_refl _)
   have C88 := Lib.hid (C87.out.moves mz (C87.out.st.below (below_alloc wc87 (exO v (.slice Ak v.kids.length ck))) (Nat.le_refl _)))
   have Z88 := Lib.hid (heap_alloc_new wc87 (exO v (.slice Ak v.kids.length ck)))
   have Y88 := Lib.hid (Y87.out.moves mz hRlo)
   clear mz
   generalize wc87.alloc (exO v (.slice Ak v.kids.length ck)) = wb88 at *
   refine hK.out _ _ trivial (fun hHeld => ?_)
   clear hK K
   obtain ⟨ks, hks, hown, hkid⟩ := C88.out.own
   have HO := Lib.hid hown
   have HKd := Lib.hid hkid
   clear hown hkid
   have HNw : Hid (∀ (j : Nat) (u : Value), (exC v (.slice Ak v.kids.length ck))[j]? = some u → wb88.cell? ((Addr.mk (wc87.heap.size) 0 none).add j) = some u) := fun j u hu => by
    rw [Addr.add_mid]
    exact range_of (cs := (exC v (.slice Ak v.kids.length ck))) Z88.out j u hu
   refine wpAnyH_ready (rs := [7]) (by kernel_rfl) (by simp) ?_
   refine AllReadyH.cons rfl (fun K hK => ?_) AllReadyH.nil
   rw [if_pos (by rfl)]
   refine wp_append_one _ (.tmp 70) (.tmp 75) 143 rfl ((w1.heap.size + 1)) 202 i0 _ 5 64 Tryz.underlying143 hi hz0 hz1 hz2 rfl (by omega) _ _ _ rfl HO.out ⟨wc87.heap.size, 0, none⟩ 1 (exC v (.slice Ak v.kids.length ck)) rfl rfl HNw.out one5 (by (try simp only [List.length_cons, List.length_nil]); omega) (by simp; unfold maxLen; omega) C88.out.lo ?_
   intro v' w' ho hg hvv
   obtain ⟨A', c', hA'⟩ := own_shape ho
   subst hA'
   have M89 := Lib.hid (C88.out.more hks HKd.out HO.out ho hg hvv Y88.out).1
   have hcL := C88.out.va.of (C88.out.more hks HKd.out HO.out ho hg hvv Y88.out).2
   have hce := (hcL.cell 2 _ rfl).1
   have hcf := (hcL.cell 2 _ rfl).2
   clear ho hg hvv HO HKd HNw hcL
   refine hK.out _ _ trivial (fun hHeld => ?_)
   clear hK K
   simp only [Act.put, List.setIfInBounds_toArray, List.set_cons_zero, List.set_cons_succ]
   refine wpAnyH_take (i := 8) (v := ?vp85_t89) rfl (by kernel_rfl) (by kernel_rfl) (by kernel_rfl) (fun _ _ _ h => h) (Or.inl ⟨by kernel_rfl, ?yp85_t89⟩) (by assumption) ?rp85_t89
   case yp85_t89 => (intro w hSw; (try dsimp only at hSw); go_simp; (try with_reducible rfl))
   try simp only [Act.put, List.getElem_toArray, List.getElem_cons_zero, List.getElem_cons_succ, List.setIfInBounds_toArray, List.set_cons_zero, List.set_cons_succ]
   refine wpAnyH_ready (rs := [9]) (by kernel_rfl) (by simp) ?_
   refine AllReadyH.cons rfl (fun K hK => ?_) AllReadyH.nil
   go_simp
   refine hK.out _ _ trivial (fun hHeld => ?_)
   clear hK K hce hcf
   refine wpAnyH_done (by kernel_rfl) ?_ _
   go_wp2
   go_meet
   exact ⟨v, A', c', M89, HV⟩
  ·go_simp
   (try simp only [hwrap])
   with_reducible refine (K0.out wd HD.out.st).mono ?_
   rintro x wc90 ⟨hm, ⟨v, xv, rfl, hq, hv⟩, r2⟩
   obtain ⟨kk, rfl, hk, hk1⟩ := exV_cells hq
   obtain ⟨Ak, ck, rfl⟩ := exsC_slice hk
   have C90 := Lib.hid (HD.out.moves hm r2)
   have Y90 := Lib.hid (HD.out.apart hk)
   have HV := Lib.hid hv
   clear hm r2 hk hq hk1 hv
   refine hK.out _ _ trivial (fun hHeld => ?_)
   clear hK K
   refine wpAnyH_ready (rs := [1, 6]) (by kernel_rfl) (by simp) ?_
   refine AllReadyH.cons rfl (fun K hK => ?_) (AllReadyH.cons rfl (fun K hK => ?_) AllReadyH.nil)
   ·have hce := C90.out.cells.1.2.2.1
    go_simp
    clear hce
    refine hK.out _ _ trivial (fun hHeld => ?_)
    clear hK K
    refine wpAnyH_ready (rs := [6]) (by kernel_rfl) (by simp) ?_
    refine AllReadyH.cons rfl (fun K hK => ?_) AllReadyH.nil
    go_simp
    have mz := Moves.of_below (R := R) (below_alloc wc90 (exO v (.slice Ak v.kids.length ck))) (Nat.le_refl _)
    have C92 := Lib.hid (C90.out.moves mz (C90.out.st.below (below_alloc wc90 (exO v (.slice Ak v.kids.length ck))) (Nat.le_refl _)))
    have Z92 := Lib.hid (heap_alloc_new wc90 (exO v (.slice Ak v.kids.length ck)))
    have Y92 := Lib.hid (Y90.out.moves mz hRlo)
    clear mz
    generalize wc90.alloc (exO v (.slice Ak v.kids.length ck)) = wb92 at *
    refine hK.out _ _ trivial (fun hHeld => ?_)
    clear hK K
    obtain ⟨ks, hks, hown, hkid⟩ := C92.out.own
    have HO := Lib.hid hown
    have HKd := Lib.hid hkid
    clear hown hkid
    have HNw : Hid (∀ (j : Nat) (u : Value), (exC v (.slice Ak v.kids.length ck))[j]? = some u → wb92.cell? ((Addr.mk (wc90.heap.size) 0 none).add j) = some u) := fun j u hu => by
     rw [Addr.add_mid]
     exact range_of (cs := (exC v (.slice Ak v.kids.length ck))) Z92.out j u hu
    refine wpAnyH_ready (rs := [7]) (by kernel_rfl) (by simp) ?_
    refine AllReadyH.cons rfl (fun K hK => ?_) AllReadyH.nil
    rw [if_pos (by rfl)]
    refine wp_append_one _ (.tmp 70) (.tmp 75) 143 rfl ((w1.heap.size + 1)) 202 i0 _ 5 64 Tryz.underlying143 hi hz0 hz1 hz2 rfl (by omega) _ _ _ rfl HO.out ⟨wc90.heap.size, 0, none⟩ 1 (exC v (.slice Ak v.kids.length ck)) rfl rfl HNw.out one5 (by (try simp only [List.length_cons, List.length_nil]); omega) (by simp; unfold maxLen; omega) C92.out.lo ?_
    intro v' w' ho hg hvv
    obtain ⟨A', c', hA'⟩ := own_shape ho
    subst hA'
    have M93 := Lib.hid (C92.out.more hks HKd.out HO.out ho hg hvv Y92.out).1
    have hcL := C92.out.va.of (C92.out.more hks HKd.out HO.out ho hg hvv Y92.out).2
    have hce := (hcL.cell 2 _ rfl).1
    have hcf := (hcL.cell 2 _ rfl).2
    clear ho hg hvv HO HKd HNw hcL
    refine hK.out _ _ trivial (fun hHeld => ?_)
    clear hK K
    simp only [Act.put, List.setIfInBounds_toArray, List.set_cons_zero, List.set_cons_succ]
    refine wpAnyH_take (i := 8) (v := ?vp85_t93) rfl (by kernel_rfl) (by kernel_rfl) (by kernel_rfl) (fun _ _ _ h => h) (Or.inl ⟨by kernel_rfl, ?yp85_t93⟩) (by assumption) ?rp85_t93
    case yp85_t93 => (intro w hSw; (try dsimp only at hSw); go_simp; (try with_reducible rfl))
    try simp only [Act.put, List.getElem_toArray, List.getElem_cons_zero, List.getElem_cons_succ, List.setIfInBounds_toArray, List.set_cons_zero, List.set_cons_succ]
    refine wpAnyH_ready (rs := [9]) (by kernel_rfl) (by simp) ?_
    refine AllReadyH.cons rfl (fun K hK => ?_) AllReadyH.nil
    go_simp
    refine hK.out _ _ trivial (fun hHeld => ?_)
    clear hK K hce hcf
    refine wpAnyH_done (by kernel_rfl) ?_ _
    go_wp2
    go_meet
    exact ⟨v, A', c', M93, HV⟩
   ·go_simp
    have mz := Moves.of_below (R := R) (below_alloc wc90 (exO v (.slice Ak v.kids.length ck))) (Nat.le_refl _)
    have C94 := Lib.hid (C90.out.moves mz (C90.out.st.below (below_alloc wc90 (exO v (.slice Ak v.kids.length ck))) (Nat.le_refl _)))
    have Z94 := Lib.hid (heap_alloc_new wc90 (exO v (.slice Ak v.kids.length ck)))
    have Y94 := Lib.hid (Y90.out.moves mz hRlo)
    clear mz
    generalize wc90.alloc (exO v (.slice Ak v.kids.length ck)) = wb94 at *
    refine hK.out _ _ trivial (fun hHeld => ?_)
    clear hK K
    refine wpAnyH_ready (rs := [1]) (by kernel_rfl) (by simp) ?_
    refine AllReadyH.cons rfl (fun K hK => ?_) AllReadyH.nil
    have hce := C94.out.cells.1.2.2.1
    go_simp
    clear hce
    refine hK.out _ _ trivial (fun hHeld => ?_)
    clear hK K
    obtain ⟨ks, hks, hown, hkid⟩ := C94.out.own
    have HO := Lib.hid hown
    have HKd := Lib.hid hkid
    clear hown hkid
    have HNw : Hid (∀ (j : Nat) (u : Value), (exC v (.slice Ak v.kids.length ck))[j]? = some u → wb94.cell? ((Addr.mk (wc90.heap.size) 0 none).add j) = some u) := fun j u hu => by
     rw [Addr.add_mid]
     exact range_of (cs := (exC v (.slice Ak v.kids.length ck))) Z94.out j u hu
    refine wpAnyH_ready (rs := [7]) (by kernel_rfl) (by simp) ?_
    refine AllReadyH.cons rfl (fun K hK => ?_) AllReadyH.nil
    rw [if_pos (by rfl)]
    refine wp_append_one _ (.tmp 70) (.tmp 75) 143 rfl ((w1.heap.size + 1)) 202 i0 _ 5 64 Tryz.underlying143 hi hz0 hz1 hz2 rfl (by omega) _ _ _ rfl HO.out ⟨wc90.heap.size, 0, none⟩ 1 (exC v (.slice Ak v.kids.length ck)) rfl rfl HNw.out one5 (by (try simp only [List.length_cons, List.length_nil]); omega) (by simp; unfold maxLen; omega) C94.out.lo ?_
    intro v' w' ho hg hvv
    obtain ⟨A', c', hA'⟩ := own_shape ho
    subst hA'
    have M96 := Lib.hid (C94.out.more hks HKd.out HO.out ho hg hvv Y94.out).1
    have hcL := C94.out.va.of (C94.out.more hks HKd.out HO.out ho hg hvv Y94.out).2
    have hce := (hcL.cell 2 _ rfl).1
    have hcf := (hcL.cell 2 _ rfl).2
    clear ho hg hvv HO HKd HNw hcL
    refine hK.out _ _ trivial (fun hHeld => ?_)
    clear hK K
    simp only [Act.put, List.setIfInBounds_toArray, List.set_cons_zero, List.set_cons_succ]
    refine wpAnyH_take (i := 8) (v := ?vp85_t96) rfl (by kernel_rfl) (by kernel_rfl) (by kernel_rfl) (fun _ _ _ h => h) (Or.inl ⟨by kernel_rfl, ?yp85_t96⟩) (by assumption) ?rp85_t96
    case yp85_t96 => (intro w hSw; (try dsimp only at hSw); go_simp; (try with_reducible rfl))
    try simp only [Act.put, List.getElem_toArray, List.getElem_cons_zero, List.getElem_cons_succ, List.setIfInBounds_toArray, List.set_cons_zero, List.set_cons_succ]
    refine wpAnyH_ready (rs := [9]) (by kernel_rfl) (by simp) ?_
    refine AllReadyH.cons rfl (fun K hK => ?_) AllReadyH.nil
    go_simp
    refine hK.out _ _ trivial (fun hHeld => ?_)
    clear hK K hce hcf
    refine wpAnyH_done (by kernel_rfl) ?_ _
    go_wp2
    go_meet
    exact ⟨v, A', c', M96, HV⟩
 case rest =>
  obtain ⟨x1, A7, c7, HC7, HVx1⟩ := hcut
  generalize wc = v7 at *
  rw [← HT3.out] at HC7
  clear HC6
  go_wp2_with fail
  have K := Lib.hid (rmust R S σ3 kTo ⟨#[116, 111]⟩ v7 HC7.out.st (by kernel_rfl) (by unfold Byn; decide))
  rw [← HT4.out] at K
  (with_reducible refine K.out.mono ?_)
  clear K
  rintro x v8 ⟨rfl, h1, h2⟩
  have HC8 := Lib.hid (HC7.out.moves h1 h2)
  clear h1 h2 HC7
  go_wp2_with fail
  go_upto_region 21 with fail
  have K0 : Hid (∀ w1, Rs w1 R S σ4 → Calls Tryz.prog 150 #[.pointer (some ⟨R, 0, none⟩), .int .i64 ((d : Int) + 1)] w1 (RGot R S (QE w1.heap.size) w1 (σ4.bind fun _ ts => e ts))) := fun w1 h => HE.out _ w1 h
  go_cut [] (fun wx => ∃ (v : Ex) (A' : Option Addr) (c' : Nat), Hid (SvC R S w w1.heap.size w.heap.size (w1.heap.size + 1) 4 t.text [x1, v] (.slice A' 2 c') (.slice none 0 0) (.slice none 0 0) P (σ4.bind fun _ ts => e ts).unit wx) ∧ Hid (∀ a r, (σ4.bind fun _ ts => e ts) = .ok a r → v = a))
  case first =>
   have HD := Lib.hid (HC8.out.moves (w' := v8.drew) ⟨rfl, rfl, rfl, Nat.le_refl _, fun _ _ _ => rfl⟩ (HC8.out.st.below ((Below.refl v8.heap.size v8).drew) (Nat.le_refl _)))
   refine wp_region_held_drew (S := fun _ => True) (by kernel_rfl) trivial (fun hHeld => ?_)
   refine wpAnyH_take (i := 0) (v := ?vp97_0) rfl (by kernel_rfl) (by kernel_rfl) (by kernel_rfl) (fun _ _ _ h => h) (Or.inl ⟨by kernel_rfl, ?yp97_0⟩) (by assumption) ?rp97_0
   case yp97_0 => (intro w hSw; (try dsimp only at hSw); go_simp; (try with_reducible rfl))
   try simp only [Act.put, List.getElem_toArray, List.getElem_cons_zero, List.getElem_cons_succ, List.setIfInBounds_toArray, List.set_cons_zero, List.set_cons_succ]
   refine wpAnyH_take (i := 2) (v := ?vp97_2) rfl (by kernel_rfl) (by kernel_rfl) (by kernel_rfl) (fun _ _ _ h => h) (Or.inl ⟨by kernel_rfl, ?yp97_2⟩) (by assumption) ?rp97_2
   case yp97_2 => (intro w hSw; (try dsimp only at hSw); go_simp; (try with_reducible rfl))
   try simp only [Act.put, List.getElem_toArray, List.getElem_cons_zero, List.getElem_cons_succ, List.setIfInBounds_toArray, List.set_cons_zero, List.set_cons_succ]
   refine wpAnyH_take (i := 3) (v := ?vp97_3) rfl (by kernel_rfl) (by kernel_rfl) (by kernel_rfl) (fun _ _ _ h => h) (Or.inl ⟨by kernel_rfl, ?yp97_3⟩) (by assumption) ?rp97_3
   case yp97_3 => (intro w hSw; (try dsimp only at hSw); go_simp; (try with_reducible rfl))
   try simp only [Act.put, List.getElem_toArray, List.getElem_cons_zero, List.getElem_cons_succ, List.setIfInBounds_toArray, List.set_cons_zero, List.set_cons_succ]
   refine wpAnyH_take (i := 4) (v := ?vp97_4) rfl (by kernel_rfl) (by kernel_rfl) (by kernel_rfl) (fun _ _ _ h => h) (Or.inl ⟨by kernel_rfl, ?yp97_4⟩) (by assumption) ?rp97_4
   case yp97_4 => (intro w hSw; (try dsimp only at hSw); go_simp; (try with_reducible rfl))
   try simp only [Act.put, List.getElem_toArray, List.getElem_cons_zero, List.getElem_cons_succ, List.setIfInBounds_toArray, List.set_cons_zero, List.set_cons_succ]
   generalize v8.drew = wd at *
   refine wpAnyH_ready (rs := [1, 5]) (by kernel_rfl) (by simp) ?_
   refine AllReadyH.cons rfl (fun K hK => ?_) (AllReadyH.cons rfl (fun K hK => ?_) AllReadyH.nil)
   ·have hce := HD.out.cells.1.2.2.1
    go_simp
    clear hce
    refine hK.out _ _ trivial (fun hHeld => ?_)
    clear hK K
    refine wpAnyH_ready (rs := [5]) (by kernel_rfl) (by simp) ?_
    refine AllReadyH.cons rfl (fun K hK => ?_) AllReadyH.nil
    go_simp
    (try simp only [hwrap])
    with_reducible refine (K0.out wd HD.out.st).mono ?_
    rintro x wc99 ⟨hm, ⟨v, xv, rfl, hq, hv⟩, r2⟩
    obtain ⟨kk, rfl, hk, hk1⟩ := exV_cells hq
    obtain ⟨Ak, ck, rfl⟩ := exsC_slice hk
    have C99 := Lib.hid (HD.out.moves hm r2)
    have Y99 := Lib.hid (HD.out.apart hk)
    have HV := Lib.hid hv
    clear hm r2 hk hq hk1 hv
    refine hK.out _ _ trivial (fun hHeld => ?_)
    clear hK K
    refine wpAnyH_ready (rs := [6]) (by kernel_rfl) (by simp) ?_
    refine AllReadyH.cons rfl (fun K hK => ?_) AllReadyH.nil
    go_simp
    have mz := Moves.of_below (R := R) (below_alloc wc99 (exO v (.slice Ak v.kids.length ck))) (Nat.le_refl _)
    have C100 := Lib.hid (C99.out.moves mz (C99.out.st.below (below_alloc wc99 (exO v (.slice Ak v.kids.length ck))) (Nat.le_refl _)))
    have Z100 := Lib.hid (heap_alloc_new wc99 (exO v (.slice Ak v.kids.length ck)))
    have Y100 := Lib.hid (Y99.out.moves mz hRlo)
    clear mz
    generalize wc99.alloc (exO v (.slice Ak v.kids.length ck)) = wb100 at *
    refine hK.out _ _ trivial (fun hHeld => ?_)
    clear hK K
    obtain ⟨ks, hks, hown, hkid⟩ := C100.out.own
    have HO := Lib.hid hown
    have HKd := Lib.hid hkid
    clear hown hkid
    have HNw : Hid (∀ (j : Nat) (u : Value), (exC v (.slice Ak v.kids.length ck))[j]? = some u → wb100.cell? ((Addr.mk (wc99.heap.size) 0 none).add j) = some u) := fun j u hu => by
     rw [Addr.add_mid]
     exact range_of (cs := (exC v (.slice Ak v.kids.length ck))) Z100.out j u hu
    refine wpAnyH_ready (rs := [7]) (by kernel_rfl) (by simp) ?_
    refine AllReadyH.cons rfl (fun K hK => ?_) AllReadyH.nil
    rw [if_pos (by rfl)]
    refine wp_append_one _ (.tmp 81) (.tmp 86) 143 rfl ((w1.heap.size + 1)) 202 i0 _ 5 64 Tryz.underlying143 hi hz0 hz1 hz2 rfl (by omega) _ _ _ rfl HO.out ⟨wc99.heap.size, 0, none⟩ 1 (exC v (.slice Ak v.kids.length ck)) rfl rfl HNw.out one5 (by (try simp only [List.length_cons, List.length_nil]); omega) (by simp; unfold maxLen; omega) C100.out.lo ?_
    intro v' w' ho hg hvv
    obtain ⟨A', c', hA'⟩ := own_shape ho
    subst hA'
    have M101 := Lib.hid (C100.out.more hks HKd.out HO.out ho hg hvv Y100.out).1
    have hcL := C100.out.va.of (C100.out.more hks HKd.out HO.out ho hg hvv Y100.out).2
    have hce := (hcL.cell 2 _ rfl).1
    have hcf := (hcL.cell 2 _ rfl).2
    clear ho hg hvv HO HKd HNw hcL
    refine hK.out _ _ trivial (fun hHeld => ?_)
    clear hK K
    simp only [Act.put, List.setIfInBounds_toArray, List.set_cons_zero, List.set_cons_succ]
    refine wpAnyH_take (i := 8) (v := ?vp97_t101) rfl (by kernel_rfl) (by kernel_rfl) (by kernel_rfl) (fun _ _ _ h => h) (Or.inl ⟨by kernel_rfl, ?yp97_t101⟩) (by assumption) ?rp97_t101
    case yp97_t101 => (intro w hSw; (try dsimp only at hSw); go_simp; (try with_reducible rfl))
    try simp only [Act.put, List.getElem_toArray, List.getElem_cons_zero, List.getElem_cons_succ, List.setIfInBounds_toArray, List.set_cons_zero, List.set_cons_succ]
    refine wpAnyH_ready (rs := [9]) (by kernel_rfl) (by simp) ?_
    refine AllReadyH.cons rfl (fun K hK => ?_) AllReadyH.nil
    go_simp
    refine hK.out _ _ trivial (fun hHeld => ?_)
    clear hK K hce hcf
    refine wpAnyH_done (by kernel_rfl) ?_ _
    go_wp2
    go_meet
    exact ⟨v, A', c', M101, HV⟩
   ·go_simp
    (try simp only [hwrap])
    with_reducible refine (K0.out wd HD.out.st).mono ?_
    rintro x wc102 ⟨hm, ⟨v, xv, rfl, hq, hv⟩, r2⟩
    obtain ⟨kk, rfl, hk, hk1⟩ := exV_cells hq
    obtain ⟨Ak, ck, rfl⟩ := exsC_slice hk
    have C102 := Lib.hid (HD.out.moves hm r2)
    have Y102 := Lib.hid (HD.out.apart hk)
    have HV := Lib.hid hv
    clear hm r2 hk hq hk1 hv
    refine hK.out _ _ trivial (fun hHeld => ?_)
    clear hK K
    refine wpAnyH_ready (rs := [1, 6]) (by kernel_rfl) (by simp) ?_
    refine AllReadyH.cons rfl (fun K hK => ?_) (AllReadyH.cons rfl (fun K hK => ?_) AllReadyH.nil)
    ·have hce := C102.out.cells.1.2.2.1
     go_simp
     clear hce
     refine hK.out _ _ trivial (fun hHeld => ?_)
     clear hK K
     refine wpAnyH_ready (rs := [6]) (by kernel_rfl) (by simp) ?_
     refine AllReadyH.cons rfl (fun K hK => ?_) AllReadyH.nil
     go_simp
     have mz := Moves.of_below (R := R) (below_alloc wc102 (exO v (.slice Ak v.kids.length ck))) (Nat.le_refl _)
     have C104 := Lib.hid (C102.out.moves mz (C102.out.st.below (below_alloc wc102 (exO v (.slice Ak v.kids.length ck))) (Nat.le_refl _)))
     have Z104 := Lib.hid (heap_alloc_new wc102 (exO v (.slice Ak v.kids.length ck)))
     have Y104 := Lib.hid (Y102.out.moves mz hRlo)
     clear mz
     generalize wc102.alloc (exO v (.slice Ak v.kids.length ck)) = wb104 at *
     refine hK.out _ _ trivial (fun hHeld => ?_)
     clear hK K
     obtain ⟨ks, hks, hown, hkid⟩ := C104.out.own
     have HO := Lib.hid hown
     have HKd := Lib.hid hkid
     clear hown hkid
     have HNw : Hid (∀ (j : Nat) (u : Value), (exC v (.slice Ak v.kids.length ck))[j]? = some u → wb104.cell? ((Addr.mk (wc102.heap.size) 0 none).add j) = some u) := fun j u hu => by
      rw [Addr.add_mid]
      exact range_of (cs := (exC v (.slice Ak v.kids.length ck))) Z104.out j u hu
     refine wpAnyH_ready (rs := [7]) (by kernel_rfl) (by simp) ?_
     refine AllReadyH.cons rfl (fun K hK => ?_) AllReadyH.nil
     rw [if_pos (by rfl)]
     refine wp_append_one _ (.tmp 81) (.tmp 86) 143 rfl ((w1.heap.size + 1)) 202 i0 _ 5 64 Tryz.underlying143 hi hz0 hz1 hz2 rfl (by omega) _ _ _ rfl HO.out ⟨wc102.heap.size, 0, none⟩ 1 (exC v (.slice Ak v.kids.length ck)) rfl rfl HNw.out one5 (by (try simp only [List.length_cons, List.length_nil]); omega) (by simp; unfold maxLen; omega) C104.out.lo ?_
     intro v' w' ho hg hvv
     obtain ⟨A', c', hA'⟩ := own_shape ho
     subst hA'
     have M105 := Lib.hid (C104.out.more hks HKd.out HO.out ho hg hvv Y104.out).1
     have hcL := C104.out.va.of (C104.out.more hks HKd.out HO.out ho hg hvv Y104.out).2
     have hce := (hcL.cell 2 _ rfl).1
     have hcf := (hcL.cell 2 _ rfl).2
     clear ho hg hvv HO HKd HNw hcL
     refine hK.out _ _ trivial (fun hHeld => ?_)
     clear hK K
     simp only [Act.put, List.setIfInBounds_toArray, List.set_cons_zero, List.set_cons_succ]
     refine wpAnyH_take (i := 8) (v := ?vp97_t105) rfl (by kernel_rfl) (by kernel_rfl) (by kernel_rfl) (fun _ _ _ h => h) (Or.inl ⟨by kernel_rfl, ?yp97_t105⟩) (by assumption) ?rp97_t105
     case yp97_t105 => (intro w hSw; (try dsimp only at hSw); go_simp; (try with_reducible rfl))
     try simp only [Act.put, List.getElem_toArray, List.getElem_cons_zero, List.getElem_cons_succ, List.setIfInBounds_toArray, List.set_cons_zero, List.set_cons_succ]
     refine wpAnyH_ready (rs := [9]) (by kernel_rfl) (by simp) ?_
     refine AllReadyH.cons rfl (fun K hK => ?_) AllReadyH.nil
     go_simp
     refine hK.out _ _ trivial (fun hHeld => ?_)
     clear hK K hce hcf
     refine wpAnyH_done (by kernel_rfl) ?_ _
     go_wp2
     go_meet
     exact ⟨v, A', c', M105, HV⟩
    ·go_simp
     have mz := Moves.of_below (R := R) (below_alloc wc102 (exO v (.slice Ak v.kids.length ck))) (Nat.le_refl _)
     have C106 := Lib.hid (C102.out.moves mz (C102.out.st.below (below_alloc wc102 (exO v (.slice Ak v.kids.length ck))) (Nat.le_refl _)))
     have Z106 := Lib.hid (heap_alloc_new wc102 (exO v (.slice Ak v.kids.length ck)))
     have Y106 := Lib.hid (Y102.out.moves mz hRlo)
     clear mz
     generalize wc102.alloc (exO v (.slice Ak v.kids.length ck)) = wb106 at *
     refine hK.out _ _ trivial (fun hHeld => ?_)
     clear hK K
     refine wpAnyH_ready (rs := [1]) (by kernel_rfl) (by simp) ?_
     refine AllReadyH.cons rfl (fun K hK => ?_) AllReadyH.nil
     have hce := C106.out.cells.1.2.2.1
     go_simp
     clear hce
     refine hK.out _ _ trivial (fun hHeld => ?_)
     clear hK K
     obtain ⟨ks, hks, hown, hkid⟩ := C106.out.own
     have HO := Lib.hid hown
     have HKd := Lib.hid hkid
     clear hown hkid
     have HNw : Hid (∀ (j : Nat) (u : Value), (exC v (.slice Ak v.kids.length ck))[j]? = some u → wb106.cell? ((Addr.mk (wc102.heap.size) 0 none).add j) = some u) := fun j u hu => by
      rw [Addr.add_mid]
      exact range_of (cs := (exC v (.slice Ak v.kids.length ck))) Z106.out j u hu
     refine wpAnyH_ready (rs := [7]) (by kernel_rfl) (by simp) ?_
     refine AllReadyH.cons rfl (fun K hK => ?_) AllReadyH.nil
     rw [if_pos (by rfl)]
     refine wp_append_one _ (.tmp 81) (.tmp 86) 143 rfl ((w1.heap.size + 1)) 202 i0 _ 5 64 Tryz.underlying143 hi hz0 hz1 hz2 rfl (by omega) _ _ _ rfl HO.out ⟨wc102.heap.size, 0, none⟩ 1 (exC v (.slice Ak v.kids.length ck)) rfl rfl HNw.out one5 (by (try simp only [List.length_cons, List.length_nil]); omega) (by simp; unfold maxLen; omega) C106.out.lo ?_
     intro v' w' ho hg hvv
     obtain ⟨A', c', hA'⟩ := own_shape ho
     subst hA'
     have M108 := Lib.hid (C106.out.more hks HKd.out HO.out ho hg hvv Y106.out).1
     have hcL := C106.out.va.of (C106.out.more hks HKd.out HO.out ho hg hvv Y106.out).2
     have hce := (hcL.cell 2 _ rfl).1
     have hcf := (hcL.cell 2 _ rfl).2
     clear ho hg hvv HO HKd HNw hcL
     refine hK.out _ _ trivial (fun hHeld => ?_)
     clear hK K
     simp only [Act.put, List.setIfInBounds_toArray, List.set_cons_zero, List.set_cons_succ]
     refine wpAnyH_take (i := 8) (v := ?vp97_t108) rfl (by kernel_rfl) (by kernel_rfl) (by kernel_rfl) (fun _ _ _ h => h) (Or.inl ⟨by kernel_rfl, ?yp97_t108⟩) (by assumption) ?rp97_t108
     case yp97_t108 => (intro w hSw; (try dsimp only at hSw); go_simp; (try with_reducible rfl))
     try simp only [Act.put, List.getElem_toArray, List.getElem_cons_zero, List.getElem_cons_succ, List.setIfInBounds_toArray, List.set_cons_zero, List.set_cons_succ]
     refine wpAnyH_ready (rs := [9]) (by kernel_rfl) (by simp) ?_
     refine AllReadyH.cons rfl (fun K hK => ?_) AllReadyH.nil
     go_simp
     refine hK.out _ _ trivial (fun hHeld => ?_)
     clear hK K hce hcf
     refine wpAnyH_done (by kernel_rfl) ?_ _
     go_wp2
     go_meet
     exact ⟨v, A', c', M108, HV⟩
  case rest =>
   obtain ⟨x2, A9, c9, HC9, HVx2⟩ := hcut
   generalize wc = v9 at *
   rw [← HT5.out] at HC9
   clear HC8
   go_wp2_with fail
   have K := Lib.hid (HK1.out v9 HC9.out.st)
   (with_reducible refine K.out.mono ?_)
   clear K
   rintro x v10 ⟨m3, ⟨l1, xv, rfl, hq, hv⟩, r3⟩
   have HB10 : Hid (BlC (w1.heap.size + 1) v10 l1 xv) := StsC.more hq fun q hq => ⟨Nat.le_trans HC9.out.lo hq.1, hq.2⟩
   obtain ⟨A10, c10, rfl⟩ := stsC_slice hq
   have HC10 := Lib.hid (HC9.out.moves m3 r3)
   have HVl1 := Lib.hid hv
   clear m3 r3 hq hv HC9
   rw [← HT6.out] at HC10
   have f0 := HC10.out.cells
   have c0 := f0.1.2.2.2.1
   have b0 := f0.2.2.2.2.1
   clear f0
   have HD10 := Lib.hid (HC10.out.set3 (.slice A10 l1.length c10))
   have HE10 : Hid (BlC (w1.heap.size + 1) (v10.setCell ⟨w1.heap.size, 3, none⟩ (.slice A10 l1.length c10)) l1 (.slice A10 l1.length c10)) := (StsC.same HB10.out fun q hq => set_other q (by have := hq.1; omega)).more fun q hq => ⟨hq.1, by rw [set_size]; exact hq.2⟩
   clear c0 b0
   obtain ⟨⟨q0, q1, q2, q3, q4, q5⟩, ⟨p0, p1, p2, p3, p4⟩⟩ := HC10.out.cells
   clear HC10 HB10
   have HVl : Hid (∀ a r, m = .ok a r → a = .mk 4 t.text [x1, x2] l1 [] P) := fun a r h => by
    obtain ⟨t', r1, x, r2, y, r4, l, r5, e1, e2, e3, e4, e5⟩ := HVa.out a r h
    rw [e5, HVx1.out x r2 e2, HVx2.out y r4 e3, HVl1.out l r5 e4, HVt.out t' r1 e1]
   go_wp2_with (refine wpList_storeN info43s rfl (.tmp 4) (.tmp 161) rfl rfl w.heap.size rfl [_, _, _, _, _, _] rfl rfl HD10.out.th (by simp [Value.oneCell']) ?_; intro wf g1 g2 g3 g4 g5)
   refine bodyPost_ret (ret_cell (cs := [_, _, _, _, _, _]) Tryz.results125 Tryz.underlying145 rfl info43s _ _ w.heap.size rfl g1) rfl ?_
   exact HD10.out.done (o := 4) (b := l1) (f := []) HE10.out (StsC.nothing _ _) m HU.out HVl.out g3 g4 g5
end
section
open Go.RowKit
set_option maxRecDepth 100000
set_option linter.unusedSimpArgs false
set_option linter.unusedVariables false
set_option maxHeartbeats 1600000 in
theorem w_plain (R : Nat) (S : Src) (hsm : S.all.length ≤ 4096) (d : Nat) (e : Par Ex) (b : Par (List St)) (he : ExprR R S (d + 1) e) (hd : d ≤ 32) (σ : Res Unit) (w : World) (ha : Rs w R S σ) (hn0 : isR S.z kLet σ = false) (hn1 : isR S.z kIf σ = false) (hn2 : isR S.z kFor σ = false) (hn3 : isR S.z kRet σ = false) (hn4 : isR S.z kPut σ = false) (hn5 : isR S.z kDel σ = false) (m : Res St) (hm : ∀ P, (∀ u ts, σ = .ok u ts → P = (peekT S.z ts).place) → m = plainR S.z P e σ) :
  Calls Tryz.prog 125 #[.pointer (some ⟨R, 0, none⟩), .int .i64 d] w (RGot R S (QSt w.heap.size) w m) := by
 have HR := Lib.hid ha.lt
 have HE := Lib.hid he
 have HM0 := Lib.hid hm
 have HN0 := Lib.hid hn0
 have HN1 := Lib.hid hn1
 have HN2 := Lib.hid hn2
 have HN3 := Lib.hid hn3
 have HN4 := Lib.hid hn4
 have HN5 := Lib.hid hn5
 have h0 := open_one ha stZ
 have K := Lib.hid (rplaceR R S σ _ h0.1)
 have HA := Lib.hid h0
 obtain ⟨i0, hi, hz0, hz1, hz2⟩ := info_parts info39
 have hwrap : IntKind.i64.wrap ((d : Int) + 1) = (d : Int) + 1 := IntWalk.i64_in _ (by omega)
 clear ha he hm h0 hn0 hn1 hn2 hn3 hn4 hn5
 unfold stZ at HA K
 go_enter Tryz.func125, Tryz.ntmps125
 go_wp2_with fail
 generalize hw0 : w.alloc (.cells #[.int .i64 0, .string ⟨#[]⟩, .slice none 0 0, .slice none 0 0, .slice none 0 0, .int .i64 0] 145) = w0 at *
 clear hw0
 (with_reducible refine K.out.mono ?_)
 clear K
 rintro x w1 ⟨P, rfl, hP, b1⟩
 have HM := Lib.hid (HM0.out P hP)
 have HS : Hid (SvC R S w w1.heap.size w.heap.size (w1.heap.size + 1) 0 [] [] (.slice none 0 0) (.slice none 0 0) (.slice none 0 0) P σ (w1.alloc (stB P))) := by
  have hz := HA.out.2.2.2.1
  have hsz := b1.size
  have h1 := HA.out.1.below b1 (Nat.le_refl _)
  have o1 := open_one h1 (stB P)
  have h2 : SvC R S w w1.heap.size w.heap.size (w1.alloc (stB P)).heap.size 0 [] [] (.slice none 0 0) (.slice none 0 0) (.slice none 0 0) P σ (w1.alloc (stB P)) := SvC.start o1.1 (VarAt.block (cs := [.int .i64 0, .string (strN []), .slice none 0 0, .slice none 0 0, .slice none 0 0, .int .i64 P]) (T := 145) o1.2.2.1) (((Moves.of_below HA.out.2.1 (Nat.le_refl _)).below b1 (Nat.le_refl _)).below o1.2.1 (Nat.le_refl _)) (by rw [o1.2.1.block _ (by omega), b1.block _ (by omega)]; exact HA.out.2.2.1) HR.out ⟨by omega, by simp⟩ ⟨Nat.le_refl _, by simp; omega⟩ (by omega)
  rw [o1.2.2.2.1] at h2
  exact h2
 have hRlo : R < w1.heap.size + 1 := by have := HR.out; have := HA.out.2.2.2.1; have := b1.size; omega
 have HLw : Hid (w.heap.size < w1.heap.size) := by have := HA.out.2.2.2.1; have := b1.size; show _ < _; omega
 clear HA HM0 hP b1
 go_wp2_with fail
 generalize w1.alloc (.cells #[.int .i64 0, .string ⟨#[]⟩, .slice none 0 0, .slice none 0 0, .slice none 0 0, .int .i64 (P : Int)] 145) = w2 at *
 have K := Lib.hid (rtake R S σ kLet ⟨#[108, 101, 116]⟩ w2 HS.out.st (by kernel_rfl) (by unfold Byn; decide))
 rw [HN0.out, pass_false HN0.out] at K
 (with_reducible refine K.out.mono ?_)
 clear K
 rintro x v1 ⟨rfl, h1, h2⟩
 have HC1 := Lib.hid (HS.out.moves h1 h2)
 clear h1 h2 HS
 go_wp2_with fail
 have K := Lib.hid (rtake R S σ kIf ⟨#[105, 102]⟩ v1 HC1.out.st (by kernel_rfl) (by unfold Byn; decide))
 rw [HN1.out, pass_false HN1.out] at K
 (with_reducible refine K.out.mono ?_)
 clear K
 rintro x v2 ⟨rfl, h1, h2⟩
 have HC2 := Lib.hid (HC1.out.moves h1 h2)
 clear h1 h2 HC1
 go_wp2_with fail
 have K := Lib.hid (rtake R S σ kFor ⟨#[102, 111, 114]⟩ v2 HC2.out.st (by kernel_rfl) (by unfold Byn; decide))
 rw [HN2.out, pass_false HN2.out] at K
 (with_reducible refine K.out.mono ?_)
 clear K
 rintro x v3 ⟨rfl, h1, h2⟩
 have HC3 := Lib.hid (HC2.out.moves h1 h2)
 clear h1 h2 HC2
 go_wp2_with fail
 have K := Lib.hid (rtake R S σ kRet ⟨#[114, 101, 116, 117, 114, 110]⟩ v3 HC3.out.st (by kernel_rfl) (by unfold Byn; decide))
 rw [HN3.out, pass_false HN3.out] at K
 (with_reducible refine K.out.mono ?_)
 clear K
 rintro x v4 ⟨rfl, h1, h2⟩
 have HC4 := Lib.hid (HC3.out.moves h1 h2)
 clear h1 h2 HC3
 go_wp2_with fail
 have K := Lib.hid (rtake R S σ kPut ⟨#[112, 117, 116]⟩ v4 HC4.out.st (by kernel_rfl) (by unfold Byn; decide))
 rw [HN4.out, pass_false HN4.out] at K
 (with_reducible refine K.out.mono ?_)
 clear K
 rintro x v5 ⟨rfl, h1, h2⟩
 have HC5 := Lib.hid (HC4.out.moves h1 h2)
 clear h1 h2 HC4
 go_wp2_with fail
 have K := Lib.hid (rtake R S σ kDel ⟨#[100, 101, 108]⟩ v5 HC5.out.st (by kernel_rfl) (by unfold Byn; decide))
 rw [HN5.out, pass_false HN5.out] at K
 (with_reducible refine K.out.mono ?_)
 clear K
 rintro x v6 ⟨rfl, h1, h2⟩
 have HC6 := Lib.hid (HC5.out.moves h1 h2)
 clear h1 h2 HC5
 have K := Lib.hid (rplain R S d e HE.out (by omega) P σ v6 HC6.out.st hsm)
 obtain ⟨⟨q0, q1, q2, q3, q4, q5⟩, _⟩ := HC6.out.cells
 rw [← HM.out] at K
 rw [show strN [] = ⟨#[]⟩ by kernel_rfl] at q1
 go_wp2_with fail
 (with_reducible refine K.out.mono ?_)
 clear K q0 q1 q2 q3 q4 q5
 rintro x v9 ⟨m9, ⟨v, xv, rfl, ⟨⟨X, B, F⟩, hx, he, hb, hf⟩, hv⟩, r9⟩
 dsimp only at hx he hb hf
 obtain ⟨A1, c1, rfl⟩ := exsC_slice he
 obtain ⟨A2, c2, rfl⟩ := stsC_slice hb
 obtain ⟨A3, c3, rfl⟩ := stsC_slice hf
 unfold stC at hx
 subst hx
 have HC9 := Lib.hid (HC6.out.moves m9 r9)
 have HL0 := HC6.out.lo
 have HQ : Hid (QSt (w1.heap.size + 1) v9 v (.agg #[.int .i64 v.op, .string (strN v.text), .slice A1 v.exprs.length c1, .slice A2 v.body.length c2, .slice A3 v.els.length c3, .int .i64 v.place])) := ⟨⟨_, _, _⟩, rfl, he.more fun q h => ⟨Nat.le_trans HL0 h.1, h.2⟩, hb.more fun q h => ⟨Nat.le_trans HL0 h.1, h.2⟩, hf.more fun q h => ⟨Nat.le_trans HL0 h.1, h.2⟩⟩
 have HV := Lib.hid hv
 have HL := Lib.hid HL0
 clear m9 r9 he hb hf hv HL0
 go_wp2_with (first | (refine wpList_storeN info43s rfl (.tmp 5) (.tmp 12) rfl rfl w1.heap.size rfl [_, _, _, _, _, _] rfl rfl HC9.out.va.2 (by simp [Value.oneCell']) ?_; intro w5 g1 g2 g3 g4 g5; have z0 := g1 0 _ rfl; have z1 := g1 1 _ rfl; have z2 := g1 2 _ rfl; have z3 := g1 3 _ rfl; have z4 := g1 4 _ rfl; have z5 := g1 5 _ rfl; simp only [Nat.zero_add] at z0 z1 z2 z3 z4 z5; have HZ : Hid (w5.heap[w.heap.size]? = some stZ) := (g4 _ (Nat.ne_of_lt HLw.out)).trans HC9.out.z; have HG4 : Hid (∀ k, k ≠ w1.heap.size → w5.heap[k]? = v9.heap[k]?) := g4; have HG5 : Hid (w5.heap.size = v9.heap.size) := g5; have HG3 := Lib.hid g3; have th := Lib.hid (there_cells (cs := [.int .i64 0, .string ⟨#[]⟩, .slice none 0 0, .slice none 0 0, .slice none 0 0, .int .i64 0]) (T := 145) (n := 6) HZ.out rfl); clear g1 g2 g3 g4 g5) | (refine wpList_storeN info43s rfl (.tmp 4) (.tmp 161) rfl rfl w.heap.size rfl [_, _, _, _, _, _] rfl rfl th.out (by simp [Value.oneCell']) ?_; intro wf g1 g2 g3 g4 g5))
 refine bodyPost_ret (ret_cell (cs := [_, _, _, _, _, _]) Tryz.results125 Tryz.underlying145 rfl info43s _ _ w.heap.size rfl g1) rfl ?_
 have hlw := HLw.out
 have hR := HR.out
 obtain ⟨⟨X, B, F⟩, hx, he, hb, hf⟩ := HQ.out
 dsimp only at hx he hb hf
 have hkeep : ∀ k, k ≠ w.heap.size → k ≠ w1.heap.size → wf.heap[k]? = v9.heap[k]? := fun k h1 h2 => (g4 k h1).trans (HG4.out k h2)
 have hsz : wf.heap.size = v9.heap.size := g5.trans HG5.out
 injection hx with hx
 simp only [stC, List.toArray_inj, Array.mk.injEq, List.cons.injEq] at hx
 obtain ⟨_, _, rfl, rfl, rfl, _⟩ := hx
 refine ⟨(HC9.out.mv.low HG3.out (by omega)).low g3 (Nat.le_refl _), ⟨v, _, rfl, ⟨⟨_, _, _⟩, rfl, ?_, ?_, ?_⟩, HV.out⟩, HC9.out.st.keep fun k hk => hkeep k (by omega) (by omega)⟩
 ·exact (he.same fun q hq => hkeep q (by have := hq.1; omega) (by have := hq.1; omega)).more fun q hq => ⟨by have := hq.1; omega, by rw [hsz]; exact hq.2⟩
 ·exact (StsC.same hb fun q hq => hkeep q (by have := hq.1; omega) (by have := hq.1; omega)).more fun q hq => ⟨by have := hq.1; omega, by rw [hsz]; exact hq.2⟩
 ·exact (StsC.same hf fun q hq => hkeep q (by have := hq.1; omega) (by have := hq.1; omega)).more fun q hq => ⟨by have := hq.1; omega, by rw [hsz]; exact hq.2⟩
theorem rstmt (R : Nat) (S : Src) (hsm : S.all.length ≤ 4096) (d : Nat) (e : Par Ex) (b : Par (List St)) (he : ExprR R S (d + 1) e) (hd : d ≤ 32) (hb : BlkR R S d b) (h33 : d = 32 → ∀ ts, ∃ c p, e ts = .bad c p) : StmtR R S d (stmtP S.z e b) := by
 intro σ w ha
 cases σ with
 | bad c p => exact w_plain R S hsm d e b he hd (.bad c p) w ha rfl rfl rfl rfl rfl rfl _ fun P _ => rfl
 | ok u ts =>
  show Calls _ _ _ _ (RGot R S (QSt w.heap.size) w (stmtP S.z e b ts))
  by_cases h0 : seesT S.z [kLet] ts = true
  ·exact w_let R S hsm d e b he hd (.ok u ts) (.ok () ts.tail) w ha h0 (if_pos h0) _ fun P hP => by rw [hP u ts rfl]; exact m_let h0
  by_cases h1 : seesT S.z [kIf] ts = true
  ·have n0 : seesT S.z [kLet] ts = false := sees_text h1 (by decide)
   cases hE : isR S.z kElse (((Res.ok () ts.tail).bind fun _ ts => e ts).unit.bind fun _ ts => b ts).unit with
   | true => exact w_if1 R S hsm d e b he hd hb h33 (.ok u ts) (.ok () ts.tail) w ha n0 h1 (if_pos h1) hE _ fun P hP => by rw [hP u ts rfl]; exact m_if h1
   | false => exact w_if0 R S hsm d e b he hd hb h33 (.ok u ts) (.ok () ts.tail) w ha n0 h1 (if_pos h1) hE _ fun P hP => by rw [hP u ts rfl]; exact m_if h1
  by_cases h2 : seesT S.z [kFor] ts = true
  ·have n0 : seesT S.z [kLet] ts = false := sees_text h2 (by decide)
   have n1 : seesT S.z [kIf] ts = false := sees_text h2 (by decide)
   exact w_for R S hsm d e b he hd hb h33 (.ok u ts) (.ok () ts.tail) w ha n0 n1 h2 (if_pos h2) _ fun P hP => by rw [hP u ts rfl]; exact m_for h2
  by_cases h3 : seesT S.z [kRet] ts = true
  ·have n0 : seesT S.z [kLet] ts = false := sees_text h3 (by decide)
   have n1 : seesT S.z [kIf] ts = false := sees_text h3 (by decide)
   have n2 : seesT S.z [kFor] ts = false := sees_text h3 (by decide)
   cases hs : seesT S.z [[59]] ts.tail with
   | true => exact w_ret0 R S hsm d e b he hd (.ok u ts) (.ok () ts.tail) w ha n0 n1 n2 h3 (if_pos h3) hs _ fun P hP => by rw [hP u ts rfl]; exact m_ret0 h3 hs
   | false => exact w_ret1 R S hsm d e b he hd (.ok u ts) (.ok () ts.tail) w ha n0 n1 n2 h3 (if_pos h3) hs _ fun P hP => by rw [hP u ts rfl]; exact m_ret1 h3 hs
  by_cases h4 : seesT S.z [kPut] ts = true
  ·have n0 : seesT S.z [kLet] ts = false := sees_text h4 (by decide)
   have n1 : seesT S.z [kIf] ts = false := sees_text h4 (by decide)
   have n2 : seesT S.z [kFor] ts = false := sees_text h4 (by decide)
   have n3 : seesT S.z [kRet] ts = false := sees_text h4 (by decide)
   exact w_put R S hsm d e b he hd (.ok u ts) (.ok () ts.tail) w ha n0 n1 n2 n3 h4 (if_pos h4) _ fun P hP => by rw [hP u ts rfl]; exact m_put h4
  by_cases h5 : seesT S.z [kDel] ts = true
  ·have n0 : seesT S.z [kLet] ts = false := sees_text h5 (by decide)
   have n1 : seesT S.z [kIf] ts = false := sees_text h5 (by decide)
   have n2 : seesT S.z [kFor] ts = false := sees_text h5 (by decide)
   have n3 : seesT S.z [kRet] ts = false := sees_text h5 (by decide)
   have n4 : seesT S.z [kPut] ts = false := sees_text h5 (by decide)
   exact w_del R S hsm d e b he hd (.ok u ts) (.ok () ts.tail) w ha n0 n1 n2 n3 n4 h5 (if_pos h5) _ fun P hP => by rw [hP u ts rfl]; exact m_del h5
  have f0 : seesT S.z [kLet] ts = false := by simpa using h0
  have f1 : seesT S.z [kIf] ts = false := by simpa using h1
  have f2 : seesT S.z [kFor] ts = false := by simpa using h2
  have f3 : seesT S.z [kRet] ts = false := by simpa using h3
  have f4 : seesT S.z [kPut] ts = false := by simpa using h4
  have f5 : seesT S.z [kDel] ts = false := by simpa using h5
  exact w_plain R S hsm d e b he hd (.ok u ts) w ha f0 f1 f2 f3 f4 f5 _ fun P hP => by rw [hP u ts rfl]; exact m_plain f1 f2 f0 f3 f4 f5
theorem blocks_okR (R : Nat) (S : Src) (hsm : S.all.length ≤ 4096) : ∀ g, g ≤ 32 → ∀ d, d + g = 32 → BlockR R S d (blockP S.z (g + 1))
 | 0, _, d, hd => by
  have h32 : d = 32 := by omega
  have hs : StmtR R S d (stmtP S.z (exprP S.z 0) (blockP S.z 0)) := by
   refine rstmt R S hsm d _ _ (by have := exprR_ok R S hsm (d + 1) (by omega) (by omega); rwa [show 33 - (d + 1) = 0 by omega] at this) (by omega) ?_ ?_
   ·intro σ w ha hbad
    obtain ⟨c, p, rfl⟩ := hbad h32
    exact block_bad R S (d + 1) c p w ha
   ·intro _ ts
    exact ⟨42, (peekT S.z ts).place, rfl⟩
  exact rblock_step R S hsm d (by omega) _ hs (takes_stmt S.z _ _ (takes_expr S.z 0).shrinks (takes_block S.z 0).shrinks)
 | g + 1, hg, d, hd => by
  have ih := blocks_okR R S hsm g (by omega) (d + 1) (by omega)
  have hs : StmtR R S d (stmtP S.z (exprP S.z (g + 1)) (blockP S.z (g + 1))) := by
   refine rstmt R S hsm d _ _ (by have := exprR_ok R S hsm (d + 1) (by omega) (by omega); rwa [show 33 - (d + 1) = g + 1 by omega] at this) (by omega) ?_ ?_
   ·intro σ w ha _
    exact ih σ w ha
   ·intro h ts
    omega
  exact rblock_step R S hsm d (by omega) _ hs (takes_stmt S.z _ _ (takes_expr S.z (g + 1)).shrinks (takes_block S.z (g + 1)).shrinks)
theorem rbody (R : Nat) (S : Src) (hsm : S.all.length ≤ 4096) : BlockR R S 1 (blockP S.z 32) := blocks_okR R S hsm 31 (by omega) 1 rfl
end
end Go.Proofs.YtcilgkdnjgmogaaGreatDoor
