/- The document's own reading of a program. -/
import Derived.Test.YtcilgkdnjgmogaaGreatDoorNQ
namespace Go.Proofs.YtcilgkdnjgmogaaGreatDoor
section
open Go.RowKit
set_option maxRecDepth 100000
set_option linter.unusedSimpArgs false
set_option linter.unusedVariables false
theorem one_unit {α β : Type} (z : Nat) (s : List Nat) (f : α → β) (m : Res α) : (m.bind fun x r => (wantT z s r).bind fun _ r' => .ok (f x) r').unit = mustR z s m.unit := by
 cases m with
 | bad c p => rfl
 | ok a r =>
  show (Res.bind (wantT z s r) fun _ r' => Res.ok (f a) r').unit = wantT z s r
  cases wantT z s r <;> rfl
theorem one_val {α β : Type} {z : Nat} {s : List Nat} {f : α → β} {m : Res α} {a : β} {r : List Tok} (h : (m.bind fun x r => (wantT z s r).bind fun _ r' => .ok (f x) r') = .ok a r) : ∃ x r0, m = .ok x r0 ∧ a = f x := by
 cases m with
 | bad c p => cases h
 | ok x r0 =>
  refine ⟨x, r0, rfl, ?_⟩
  have h' : (Res.bind (wantT z s r0) fun _ r' => Res.ok (f x) r') = .ok a r := h
  cases hw : wantT z s r0 with
  | bad c p => rw [hw] at h'; cases h'
  | ok u r1 => rw [hw] at h'; injection h' with h' _; exact h'.symm
set_option maxHeartbeats 1600000 in
theorem w_ret0 (R : Nat) (S : Src) (hsm : S.all.length ≤ 4096) (d : Nat) (e : Par Ex) (b : Par (List St)) (he : ExprR R S (d + 1) e) (hd : d ≤ 32) (σ σa : Res Unit) (w : World) (ha : Rs w R S σ) (hn0 : isR S.z kLet σ = false) (hn1 : isR S.z kIf σ = false) (hn2 : isR S.z kFor σ = false) (hT : isR S.z kRet σ = true) (hσ : passR S.z kRet σ = σa) (hS : isR S.z [59] σa = true) (m : Res St) (hm : ∀ P, (∀ u ts, σ = .ok u ts → P = (peekT S.z ts).place) → m = (mustR S.z [59] σa).bind fun _ r => .ok (.mk 5 [] [] [] [] P) r) :
  Calls Tryz.prog 125 #[.pointer (some ⟨R, 0, none⟩), .int .i64 d] w (RGot R S (QSt w.heap.size) w m) := by
 have HR := Lib.hid ha.lt
 have HE := Lib.hid he
 have HM0 := Lib.hid hm
 have HN0 := Lib.hid hn0
 have HN1 := Lib.hid hn1
 have HN2 := Lib.hid hn2
 have HT := Lib.hid hT
 have HSa := Lib.hid hσ
 have HS9 := Lib.hid hS
 have h0 := open_one ha stZ
 have K := Lib.hid (rplaceR R S σ _ h0.1)
 have HA := Lib.hid h0
 obtain ⟨i0, hi, hz0, hz1, hz2⟩ := info_parts info39
 have hwrap : IntKind.i64.wrap ((d : Int) + 1) = (d : Int) + 1 := IntWalk.i64_in _ (by omega)
 clear ha he hm h0 hn0 hn1 hn2 hT hσ hS
 unfold stZ at HA K
 go_enter Tryz.func125, Tryz.ntmps125
 go_wp2_with fail
 generalize hw0 : w.alloc (.cells #[.int .i64 0, .string ⟨#[]⟩, .slice none 0 0, .slice none 0 0, .slice none 0 0, .int .i64 0] 145) = w0 at *
 clear hw0
 (with_reducible refine K.out.mono ?_)
 clear K
 rintro x w1 ⟨P, rfl, hP, b1⟩
 have HM := Lib.hid (HM0.out P hP)
 have HS : Hid (SvC R S w w1.heap.size w.heap.size (w1.heap.size + 1) 0 [] [] (.slice none 0 0) (.slice none 0 0) (.slice none 0 0) P σ (w1.alloc (stB P))) := by
  have hz := HA.out.2.2.2.1
  have hsz := b1.size
  have h1 := HA.out.1.below b1 (Nat.le_refl _)
  have o1 := open_one h1 (stB P)
  have h2 : SvC R S w w1.heap.size w.heap.size (w1.alloc (stB P)).heap.size 0 [] [] (.slice none 0 0) (.slice none 0 0) (.slice none 0 0) P σ (w1.alloc (stB P)) := SvC.start o1.1 (VarAt.block (cs := [.int .i64 0, .string (strN []), .slice none 0 0, .slice none 0 0, .slice none 0 0, .int .i64 P]) (T := 145) o1.2.2.1) (((Moves.of_below HA.out.2.1 (Nat.le_refl _)).below b1 (Nat.le_refl _)).below o1.2.1 (Nat.le_refl _)) (by rw [o1.2.1.block _ (by omega), b1.block _ (by omega)]; exact HA.out.2.2.1) HR.out ⟨by omega, by simp⟩ ⟨Nat.le_refl _, by simp; omega⟩ (by omega)
  rw [o1.2.2.2.1] at h2
  exact h2
 have hRlo : R < w1.heap.size + 1 := by have := HR.out; have := HA.out.2.2.2.1; have := b1.size; omega
 have HLw : Hid (w.heap.size < w1.heap.size) := by have := HA.out.2.2.2.1; have := b1.size; show _ < _; omega
 clear HA HM0 hP b1
 go_wp2_with fail
 generalize w1.alloc (.cells #[.int .i64 0, .string ⟨#[]⟩, .slice none 0 0, .slice none 0 0, .slice none 0 0, .int .i64 (P : Int)] 145) = w2 at *
 have K := Lib.hid (rtake R S σ kLet ⟨#[108, 101, 116]⟩ w2 HS.out.st (by kernel_rfl) (by unfold Byn; decide))
 rw [HN0.out, pass_false HN0.out] at K
 (with_reducible refine K.out.mono ?_)
 clear K
 rintro x v1 ⟨rfl, h1, h2⟩
 have HC1 := Lib.hid (HS.out.moves h1 h2)
 clear h1 h2 HS
 go_wp2_with fail
 have K := Lib.hid (rtake R S σ kIf ⟨#[105, 102]⟩ v1 HC1.out.st (by kernel_rfl) (by unfold Byn; decide))
 rw [HN1.out, pass_false HN1.out] at K
 (with_reducible refine K.out.mono ?_)
 clear K
 rintro x v2 ⟨rfl, h1, h2⟩
 have HC2 := Lib.hid (HC1.out.moves h1 h2)
 clear h1 h2 HC1
 go_wp2_with fail
 have K := Lib.hid (rtake R S σ kFor ⟨#[102, 111, 114]⟩ v2 HC2.out.st (by kernel_rfl) (by unfold Byn; decide))
 rw [HN2.out, pass_false HN2.out] at K
 (with_reducible refine K.out.mono ?_)
 clear K
 rintro x v3 ⟨rfl, h1, h2⟩
 have HC3 := Lib.hid (HC2.out.moves h1 h2)
 clear h1 h2 HC2
 go_wp2_with fail
 have K := Lib.hid (rtake R S σ kRet ⟨#[114, 101, 116, 117, 114, 110]⟩ v3 HC3.out.st (by kernel_rfl) (by unfold Byn; decide))
 rw [HT.out, HSa.out] at K
 (with_reducible refine K.out.mono ?_)
 clear K
 rintro x v4 ⟨rfl, h1, h2⟩
 have HC4 := Lib.hid (HC3.out.moves h1 h2)
 clear h1 h2 HC3
 obtain ⟨σ4, hσ4⟩ : ∃ σ4, σ4 = mustR S.z [59] σa := ⟨_, rfl⟩
 have HU : Hid (m.unit = σ4) := by show _ = _; rw [HM.out, ← hσ4]; cases σ4 <;> rfl
 have HVa : Hid (∀ a r, m = .ok a r → a = .mk 5 [] [] [] [] P) := fun a r h => by
  rw [HM.out] at h
  obtain ⟨x, r0, h1, h2⟩ := bind_val h
  injection h2 with h2 _
  exact h2.symm
 have HT4 := Lib.hid hσ4
 clear hσ4 HM
 have f0 := HC4.out.cells
 have c0 := f0.1.1
 have b0 := f0.2.1
 clear f0
 have HC5 := Lib.hid (HC4.out.set0 5)
 go_wp2_with fail
 generalize v4.setCell ⟨w1.heap.size, 0, none⟩ (.int .i64 5) = v5 at *
 clear c0 b0 HC4
 have K := Lib.hid (ris R S σa [59] ⟨#[59]⟩ v5 HC5.out.st (by kernel_rfl) (by unfold Byn; decide))
 rw [HS9.out] at K
 (with_reducible refine K.out.mono ?_)
 clear K
 rintro x v6 ⟨rfl, h1⟩
 have HC6 := Lib.hid (HC5.out.moves (Moves.of_below h1 (Nat.le_refl _)) (HC5.out.st.below h1 (Nat.le_refl _)))
 clear h1 HC5
 go_wp2_with fail
 have K := Lib.hid (rmust R S σa [59] ⟨#[59]⟩ v6 HC6.out.st (by kernel_rfl) (by unfold Byn; decide))
 rw [← HT4.out] at K
 (with_reducible refine K.out.mono ?_)
 clear K
 rintro x v7 ⟨rfl, h1, h2⟩
 have HC7 := Lib.hid (HC6.out.moves h1 h2)
 clear h1 h2 HC6
 have HVl : Hid (∀ a r, m = .ok a r → a = .mk 5 [] [] [] [] P) := fun a r h => by
  exact HVa.out a r h
 obtain ⟨⟨q0, q1, q2, q3, q4, q5⟩, _⟩ := HC7.out.cells
 go_wp2_with (refine wpList_storeN info43s rfl (.tmp 4) (.tmp 161) rfl rfl w.heap.size rfl [_, _, _, _, _, _] rfl rfl HC7.out.th (by simp [Value.oneCell']) ?_; intro wf g1 g2 g3 g4 g5)
 refine bodyPost_ret (ret_cell (cs := [_, _, _, _, _, _]) Tryz.results125 Tryz.underlying145 rfl info43s _ _ w.heap.size rfl g1) rfl ?_
 exact HC7.out.done (o := 5) (b := []) (f := []) (StsC.nothing _ _) (StsC.nothing _ _) m HU.out HVl.out g3 g4 g5
set_option maxHeartbeats 1600000 in
theorem w_ret1 (R : Nat) (S : Src) (hsm : S.all.length ≤ 4096) (d : Nat) (e : Par Ex) (b : Par (List St)) (he : ExprR R S (d + 1) e) (hd : d ≤ 32) (σ σa : Res Unit) (w : World) (ha : Rs w R S σ) (hn0 : isR S.z kLet σ = false) (hn1 : isR S.z kIf σ = false) (hn2 : isR S.z kFor σ = false) (hT : isR S.z kRet σ = true) (hσ : passR S.z kRet σ = σa) (hS : isR S.z [59] σa = false) (m : Res St) (hm : ∀ P, (∀ u ts, σ = .ok u ts → P = (peekT S.z ts).place) → m = (σa.bind fun _ ts => e ts).bind fun x r => (wantT S.z [59] r).bind fun _ r' => .ok (.mk 5 [] [x] [] [] P) r') :
  Calls Tryz.prog 125 #[.pointer (some ⟨R, 0, none⟩), .int .i64 d] w (RGot R S (QSt w.heap.size) w m) := by
 have HR := Lib.hid ha.lt
 have HE := Lib.hid he
 have HM0 := Lib.hid hm
 have HN0 := Lib.hid hn0
 have HN1 := Lib.hid hn1
 have HN2 := Lib.hid hn2
 have HT := Lib.hid hT
 have HSa := Lib.hid hσ
 have HS9 := Lib.hid hS
 have h0 := open_one ha stZ
 have K := Lib.hid (rplaceR R S σ _ h0.1)
 have HA := Lib.hid h0
 obtain ⟨i0, hi, hz0, hz1, hz2⟩ := info_parts info39
 have hwrap : IntKind.i64.wrap ((d : Int) + 1) = (d : Int) + 1 := IntWalk.i64_in _ (by omega)
 clear ha he hm h0 hn0 hn1 hn2 hT hσ hS
 unfold stZ at HA K
 go_enter Tryz.func125, Tryz.ntmps125
 go_wp2_with fail
 generalize hw0 : w.alloc (.cells #[.int .i64 0, .string ⟨#[]⟩, .slice none 0 0, .slice none 0 0, .slice none 0 0, .int .i64 0] 145) = w0 at *
 clear hw0
 (with_reducible refine K.out.mono ?_)
 clear K
 rintro x w1 ⟨P, rfl, hP, b1⟩
 have HM := Lib.hid (HM0.out P hP)
 have HS : Hid (SvC R S w w1.heap.size w.heap.size (w1.heap.size + 1) 0 [] [] (.slice none 0 0) (.slice none 0 0) (.slice none 0 0) P σ (w1.alloc (stB P))) := by
  have hz := HA.out.2.2.2.1
  have hsz := b1.size
  have h1 := HA.out.1.below b1 (Nat.le_refl _)
  have o1 := open_one h1 (stB P)
  have h2 : SvC R S w w1.heap.size w.heap.size (w1.alloc (stB P)).heap.size 0 [] [] (.slice none 0 0) (.slice none 0 0) (.slice none 0 0) P σ (w1.alloc (stB P)) := SvC.start o1.1 (VarAt.block (cs := [.int .i64 0, .string (strN []), .slice none 0 0, .slice none 0 0, .slice none 0 0, .int .i64 P]) (T := 145) o1.2.2.1) (((Moves.of_below HA.out.2.1 (Nat.le_refl _)).below b1 (Nat.le_refl _)).below o1.2.1 (Nat.le_refl _)) (by rw [o1.2.1.block _ (by omega), b1.block _ (by omega)]; exact HA.out.2.2.1) HR.out ⟨by omega, by simp⟩ ⟨Nat.le_refl _, by simp; omega⟩ (by omega)
  rw [o1.2.2.2.1] at h2
  exact h2
 have hRlo : R < w1.heap.size + 1 := by have := HR.out; have := HA.out.2.2.2.1; have := b1.size; omega
 have HLw : Hid (w.heap.size < w1.heap.size) := by have := HA.out.2.2.2.1; have := b1.size; show _ < _; omega
 clear HA HM0 hP b1
 go_wp2_with fail
 generalize w1.alloc (.cells #[.int .i64 0, .string ⟨#[]⟩, .slice none 0 0, .slice none 0 0, .slice none 0 0, .int .i64 (P : Int)] 145) = w2 at *
 have K := Lib.hid (rtake R S σ kLet ⟨#[108, 101, 116]⟩ w2 HS.out.st (by kernel_rfl) (by unfold Byn; decide))
 rw [HN0.out, pass_false HN0.out] at K
 (with_reducible refine K.out.mono ?_)
 clear K
 rintro x v1 ⟨rfl, h1, h2⟩
 have HC1 := Lib.hid (HS.out.moves h1 h2)
 clear h1 h2 HS
 go_wp2_with fail
 have K := Lib.hid (rtake R S σ kIf ⟨#[105, 102]⟩ v1 HC1.out.st (by kernel_rfl) (by unfold Byn; decide))
 rw [HN1.out, pass_false HN1.out] at K
 (with_reducible refine K.out.mono ?_)
 clear K
 rintro x v2 ⟨rfl, h1, h2⟩
 have HC2 := Lib.hid (HC1.out.moves h1 h2)
 clear h1 h2 HC1
 go_wp2_with fail
 have K := Lib.hid (rtake R S σ kFor ⟨#[102, 111, 114]⟩ v2 HC2.out.st (by kernel_rfl) (by unfold Byn; decide))
 rw [HN2.out, pass_false HN2.out] at K
 (with_reducible refine K.out.mono ?_)
 clear K
 rintro x v3 ⟨rfl, h1, h2⟩
 have HC3 := Lib.hid (HC2.out.moves h1 h2)
 clear h1 h2 HC2
 go_wp2_with fail
 have K := Lib.hid (rtake R S σ kRet ⟨#[114, 101, 116, 117, 114, 110]⟩ v3 HC3.out.st (by kernel_rfl) (by unfold Byn; decide))
 rw [HT.out, HSa.out] at K
 (with_reducible refine K.out.mono ?_)
 clear K
 rintro x v4 ⟨rfl, h1, h2⟩
 have HC4 := Lib.hid (HC3.out.moves h1 h2)
 clear h1 h2 HC3
 obtain ⟨σ3, hσ3⟩ : ∃ σ3, σ3 = (σa.bind fun _ ts => e ts).unit := ⟨_, rfl⟩
 obtain ⟨σ4, hσ4⟩ : ∃ σ4, σ4 = mustR S.z [59] σ3 := ⟨_, rfl⟩
 have HU : Hid (m.unit = σ4) := by show _ = _; rw [HM.out, hσ4, hσ3]; exact last_unit _ _ _ _
 have HVa : Hid (∀ a r, m = .ok a r → ∃ x r2, (σa.bind fun _ ts => e ts) = .ok x r2 ∧ a = .mk 5 [] [x] [] [] P) := fun a r h => by
  rw [HM.out] at h
  exact last_val h
 have HT3 := Lib.hid hσ3
 have HT4 := Lib.hid hσ4
 clear hσ3 hσ4 HM
 have f0 := HC4.out.cells
 have c0 := f0.1.1
 have b0 := f0.2.1
 clear f0
 have HC5 := Lib.hid (HC4.out.set0 5)
 go_wp2_with fail
 generalize v4.setCell ⟨w1.heap.size, 0, none⟩ (.int .i64 5) = v5 at *
 clear c0 b0 HC4
 have K := Lib.hid (ris R S σa [59] ⟨#[59]⟩ v5 HC5.out.st (by kernel_rfl) (by unfold Byn; decide))
 rw [HS9.out] at K
 (with_reducible refine K.out.mono ?_)
 clear K
 rintro x v6 ⟨rfl, h1⟩
 have HC6 := Lib.hid (HC5.out.moves (Moves.of_below h1 (Nat.le_refl _)) (HC5.out.st.below h1 (Nat.le_refl _)))
 clear h1 HC5
 go_wp2_with fail
 go_upto_region 26 with fail
 have K0 : Hid (∀ w1, Rs w1 R S σa → Calls Tryz.prog 150 #[.pointer (some ⟨R, 0, none⟩), .int .i64 ((d : Int) + 1)] w1 (RGot R S (QE w1.heap.size) w1 (σa.bind fun _ ts => e ts))) := fun w1 h => HE.out _ w1 h
 go_cut [] (fun wx => ∃ (v : Ex) (A' : Option Addr) (c' : Nat), Hid (SvC R S w w1.heap.size w.heap.size (w1.heap.size + 1) 5 [] [v] (.slice A' 1 c') (.slice none 0 0) (.slice none 0 0) P (σa.bind fun _ ts => e ts).unit wx) ∧ Hid (∀ a r, (σa.bind fun _ ts => e ts) = .ok a r → v = a))
 case first =>
  have HD := Lib.hid (HC6.out.moves (w' := v6.drew) ⟨rfl, rfl, rfl, Nat.le_refl _, fun _ _ _ => rfl⟩ (HC6.out.st.below ((Below.refl v6.heap.size v6).drew) (Nat.le_refl _)))
  refine wp_region_held_drew (S := fun _ => True) (by kernel_rfl) trivial (fun hHeld => ?_)
  refine wpAnyH_take (i := 0) (v := ?vp13_0) rfl (by kernel_rfl) (by kernel_rfl) (by kernel_rfl) (fun _ _ _ h => h) (Or.inl ⟨by kernel_rfl, ?yp13_0⟩) (by assumption) ?rp13_0
  case yp13_0 => (intro w hSw; (try dsimp only at hSw); go_simp; (try with_reducible rfl))
  try simp only [Act.put, List.getElem_toArray, List.getElem_cons_zero, List.getElem_cons_succ, List.setIfInBounds_toArray, List.set_cons_zero, List.set_cons_succ]
  refine wpAnyH_take (i := 2) (v := ?vp13_2) rfl (by kernel_rfl) (by kernel_rfl) (by kernel_rfl) (fun _ _ _ h => h) (Or.inl ⟨by kernel_rfl, ?yp13_2⟩) (by assumption) ?rp13_2
  case yp13_2 => (intro w hSw; (try dsimp only at hSw); go_simp; (try with_reducible rfl))
  try simp only [Act.put, List.getElem_toArray, List.getElem_cons_zero, List.getElem_cons_succ, List.setIfInBounds_toArray, List.set_cons_zero, List.set_cons_succ]
  refine wpAnyH_take (i := 3) (v := ?vp13_3) rfl (by kernel_rfl) (by kernel_rfl) (by kernel_rfl) (fun _ _ _ h => h) (Or.inl ⟨by kernel_rfl, ?yp13_3⟩) (by assumption) ?rp13_3
  case yp13_3 => (intro w hSw; (try dsimp only at hSw); go_simp; (try with_reducible rfl))
  try simp only [Act.put, List.getElem_toArray, List.getElem_cons_zero, List.getElem_cons_succ, List.setIfInBounds_toArray, List.set_cons_zero, List.set_cons_succ]
  refine wpAnyH_take (i := 4) (v := ?vp13_4) rfl (by kernel_rfl) (by kernel_rfl) (by kernel_rfl) (fun _ _ _ h => h) (Or.inl ⟨by kernel_rfl, ?yp13_4⟩) (by assumption) ?rp13_4
  case yp13_4 => (intro w hSw; (try dsimp only at hSw); go_simp; (try with_reducible rfl))
  try simp only [Act.put, List.getElem_toArray, List.getElem_cons_zero, List.getElem_cons_succ, List.setIfInBounds_toArray, List.set_cons_zero, List.set_cons_succ]
  generalize v6.drew = wd at *
  refine wpAnyH_ready (rs := [1, 5]) (by kernel_rfl) (by simp) ?_
  refine AllReadyH.cons rfl (fun K hK => ?_) (AllReadyH.cons rfl (fun K hK => ?_) AllReadyH.nil)
  ·have hce := HD.out.cells.1.2.2.1
   go_simp
   clear hce
   refine hK.out _ _ trivial (fun hHeld => ?_)
   clear hK K
   refine wpAnyH_ready (rs := [5]) (by kernel_rfl) (by simp) ?_
   refine AllReadyH.cons rfl (fun K hK => ?_) AllReadyH.nil
   go_simp
   (try simp only [hwrap])
   with_reducible refine (K0.out wd HD.out.st).mono ?_
   rintro x wc15 ⟨hm, ⟨v, xv, rfl, hq, hv⟩, r2⟩
   obtain ⟨kk, rfl, hk, hk1⟩ := exV_cells hq
   obtain ⟨Ak, ck, rfl⟩ := exsC_slice hk
   have C15 := Lib.hid (HD.out.moves hm r2)
   have Y15 := Lib.hid (HD.out.apart hk)
   have HV := Lib.hid hv
   clear hm r2 hk hq hk1 hv
   refine hK.out _ _ trivial (fun hHeld => ?_)
   clear hK K
   refine wpAnyH_ready (rs := [6]) (by kernel_rfl) (by simp) ?_
   refine AllReadyH.cons rfl (fun K hK => ?_) AllReadyH.nil
   go_simp
   have mz := Moves.of_below (R := R) (below_alloc wc15 (exO v (.slice Ak v.kids.length ck))) (Nat.le_refl _)
   have C16 := Lib.hid (C15.out.moves mz (C15.out.st.below (below_alloc wc15 (exO v (.slice Ak v.kids.length ck))) (Nat.le_refl _)))
   have Z16 := Lib.hid (heap_alloc_new wc15 (exO v (.slice Ak v.kids.length ck)))
   have Y16 := Lib.hid (Y15.out.moves mz hRlo)
   clear mz
   generalize wc15.alloc (exO v (.slice Ak v.kids.length ck)) = wb16 at *
   refine hK.out _ _ trivial (fun hHeld => ?_)
   clear hK K
   obtain ⟨ks, hks, hown, hkid⟩ := C16.out.own
   have HO := Lib.hid hown
   have HKd := Lib.hid hkid
   clear hown hkid
   have HNw : Hid (∀ (j : Nat) (u : Value), (exC v (.slice Ak v.kids.length ck))[j]? = some u → wb16.cell? ((Addr.mk (wc15.heap.size) 0 none).add j) = some u) := fun j u hu => by
    rw [Addr.add_mid]
    exact range_of (cs := (exC v (.slice Ak v.kids.length ck))) Z16.out j u hu
   refine wpAnyH_ready (rs := [7]) (by kernel_rfl) (by simp) ?_
   refine AllReadyH.cons rfl (fun K hK => ?_) AllReadyH.nil
   rw [if_pos (by rfl)]
   refine wp_append_one _ (.tmp 102) (.tmp 107) 143 rfl ((w1.heap.size + 1)) 202 i0 _ 5 64 Tryz.underlying143 hi hz0 hz1 hz2 rfl (by omega) _ _ _ rfl HO.out ⟨wc15.heap.size, 0, none⟩ 1 (exC v (.slice Ak v.kids.length ck)) rfl rfl HNw.out one5 (by (try simp only [List.length_cons, List.length_nil]); omega) (by simp; unfold maxLen; omega) C16.out.lo ?_
   intro v' w' ho hg hvv
   obtain ⟨A', c', hA'⟩ := own_shape ho
   subst hA'
   have M17 := Lib.hid (C16.out.more hks HKd.out HO.out ho hg hvv Y16.out).1
   have hcL := C16.out.va.of (C16.out.more hks HKd.out HO.out ho hg hvv Y16.out).2
   have hce := (hcL.cell 2 _ rfl).1
   have hcf := (hcL.cell 2 _ rfl).2
   clear ho hg hvv HO HKd HNw hcL
   refine hK.out _ _ trivial (fun hHeld => ?_)
   clear hK K
   simp only [Act.put, List.setIfInBounds_toArray, List.set_cons_zero, List.set_cons_succ]
   refine wpAnyH_take (i := 8) (v := ?vp13_t17) rfl (by kernel_rfl) (by kernel_rfl) (by kernel_rfl) (fun _ _ _ h => h) (Or.inl ⟨by kernel_rfl, ?yp13_t17⟩) (by assumption) ?rp13_t17
   case yp13_t17 => (intro w hSw; (try dsimp only at hSw); go_simp; (try with_reducible rfl))
   try simp only [Act.put, List.getElem_toArray, List.getElem_cons_zero, List.getElem_cons_succ, List.setIfInBounds_toArray, List.set_cons_zero, List.set_cons_succ]
   refine wpAnyH_ready (rs := [9]) (by kernel_rfl) (by simp) ?_
   refine AllReadyH.cons rfl (fun K hK => ?_) AllReadyH.nil
   go_simp
   refine hK.out _ _ trivial (fun hHeld => ?_)
   clear hK K hce hcf
   refine wpAnyH_done (by kernel_rfl) ?_ _
   go_wp2
   go_meet
   exact ⟨v, A', c', M17, HV⟩
  ·go_simp
   (try simp only [hwrap])
   with_reducible refine (K0.out wd HD.out.st).mono ?_
   rintro x wc18 ⟨hm, ⟨v, xv, rfl, hq, hv⟩, r2⟩
   obtain ⟨kk, rfl, hk, hk1⟩ := exV_cells hq
   obtain ⟨Ak, ck, rfl⟩ := exsC_slice hk
   have C18 := Lib.hid (HD.out.moves hm r2)
   have Y18 := Lib.hid (HD.out.apart hk)
   have HV := Lib.hid hv
   clear hm r2 hk hq hk1 hv
   refine hK.out _ _ trivial (fun hHeld => ?_)
   clear hK K
   refine wpAnyH_ready (rs := [1, 6]) (by kernel_rfl) (by simp) ?_
   refine AllReadyH.cons rfl (fun K hK => ?_) (AllReadyH.cons rfl (fun K hK => ?_) AllReadyH.nil)
   ·have hce := C18.out.cells.1.2.2.1
    go_simp
    clear hce
    refine hK.out _ _ trivial (fun hHeld => ?_)
    clear hK K
    refine wpAnyH_ready (rs := [6]) (by kernel_rfl) (by simp) ?_
    refine AllReadyH.cons rfl (fun K hK => ?_) AllReadyH.nil
    go_simp
    have mz := Moves.of_below (R := R) (below_alloc wc18 (exO v (.slice Ak v.kids.length ck))) (Nat.le_refl _)
    have C20 := Lib.hid (C18.out.moves mz (C18.out.st.below (below_alloc wc18 (exO v (.slice Ak v.kids.length ck))) (Nat.le_refl _)))
    have Z20 := Lib.hid (heap_alloc_new wc18 (exO v (.slice Ak v.kids.length ck)))
    have Y20 := Lib.hid (Y18.out.moves mz hRlo)
    clear mz
    generalize wc18.alloc (exO v (.slice Ak v.kids.length ck)) = wb20 at *
    refine hK.out _ _ trivial (fun hHeld => ?_)
    clear hK K
    obtain ⟨ks, hks, hown, hkid⟩ := C20.out.own
    have HO := Lib.hid hown
    have HKd := Lib.hid hkid
    clear hown hkid
    have HNw : Hid (∀ (j : Nat) (u : Value), (exC v (.slice Ak v.kids.length ck))[j]? = some u → wb20.cell? ((Addr.mk (wc18.heap.size) 0 none).add j) = some u) := fun j u hu => by
     rw [Addr.add_mid]
     exact range_of (cs := (exC v (.slice Ak v.kids.length ck))) Z20.out j u hu
    refine wpAnyH_ready (rs := [7]) (by kernel_rfl) (by simp) ?_
    refine AllReadyH.cons rfl (fun K hK => ?_) AllReadyH.nil
    rw [if_pos (by rfl)]
    refine wp_append_one _ (.tmp 102) (.tmp 107) 143 rfl ((w1.heap.size + 1)) 202 i0 _ 5 64 Tryz.underlying143 hi hz0 hz1 hz2 rfl (by omega) _ _ _ rfl HO.out ⟨wc18.heap.size, 0, none⟩ 1 (exC v (.slice Ak v.kids.length ck)) rfl rfl HNw.out one5 (by (try simp only [List.length_cons, List.length_nil]); omega) (by simp; unfold maxLen; omega) C20.out.lo ?_
    intro v' w' ho hg hvv
    obtain ⟨A', c', hA'⟩ := own_shape ho
    subst hA'
    have M21 := Lib.hid (C20.out.more hks HKd.out HO.out ho hg hvv Y20.out).1
    have hcL := C20.out.va.of (C20.out.more hks HKd.out HO.out ho hg hvv Y20.out).2
    have hce := (hcL.cell 2 _ rfl).1
    have hcf := (hcL.cell 2 _ rfl).2
    clear ho hg hvv HO HKd HNw hcL
    refine hK.out _ _ trivial (fun hHeld => ?_)
    clear hK K
    simp only [Act.put, List.setIfInBounds_toArray, List.set_cons_zero, List.set_cons_succ]
    refine wpAnyH_take (i := 8) (v := ?vp13_t21) rfl (by kernel_rfl) (by kernel_rfl) (by kernel_rfl) (fun _ _ _ h => h) (Or.inl ⟨by kernel_rfl, ?yp13_t21⟩) (by assumption) ?rp13_t21
    case yp13_t21 => (intro w hSw; (try dsimp only at hSw); go_simp; (try with_reducible rfl))
    try simp only [Act.put, List.getElem_toArray, List.getElem_cons_zero, List.getElem_cons_succ, List.setIfInBounds_toArray, List.set_cons_zero, List.set_cons_succ]
    refine wpAnyH_ready (rs := [9]) (by kernel_rfl) (by simp) ?_
    refine AllReadyH.cons rfl (fun K hK => ?_) AllReadyH.nil
    go_simp
    refine hK.out _ _ trivial (fun hHeld => ?_)
    clear hK K hce hcf
    refine wpAnyH_done (by kernel_rfl) ?_ _
    go_wp2
    go_meet
    exact ⟨v, A', c', M21, HV⟩
   ·go_simp
    have mz := Moves.of_below (R := R) (below_alloc wc18 (exO v (.slice Ak v.kids.length ck))) (Nat.le_refl _)
    have C22 := Lib.hid (C18.out.moves mz (C18.out.st.below (below_alloc wc18 (exO v (.slice Ak v.kids.length ck))) (Nat.le_refl _)))
    have Z22 := Lib.hid (heap_alloc_new wc18 (exO v (.slice Ak v.kids.length ck)))
    have Y22 := Lib.hid (Y18.out.moves mz hRlo)
    clear mz
    generalize wc18.alloc (exO v (.slice Ak v.kids.length ck)) = wb22 at *
    refine hK.out _ _ trivial (fun hHeld => ?_)
    clear hK K
    refine wpAnyH_ready (rs := [1]) (by kernel_rfl) (by simp) ?_
    refine AllReadyH.cons rfl (fun K hK => ?_) AllReadyH.nil
    have hce := C22.out.cells.1.2.2.1
    go_simp
    clear hce
    refine hK.out _ _ trivial (fun hHeld => ?_)
    clear hK K
    obtain ⟨ks, hks, hown, hkid⟩ := C22.out.own
    have HO := Lib.hid hown
    have HKd := Lib.hid hkid
    clear hown hkid
    have HNw : Hid (∀ (j : Nat) (u : Value), (exC v (.slice Ak v.kids.length ck))[j]? = some u → wb22.cell? ((Addr.mk (wc18.heap.size) 0 none).add j) = some u) := fun j u hu => by
     rw [Addr.add_mid]
     exact range_of (cs := (exC v (.slice Ak v.kids.length ck))) Z22.out j u hu
    refine wpAnyH_ready (rs := [7]) (by kernel_rfl) (by simp) ?_
    refine AllReadyH.cons rfl (fun K hK => ?_) AllReadyH.nil
    rw [if_pos (by rfl)]
    refine wp_append_one _ (.tmp 102) (.tmp 107) 143 rfl ((w1.heap.size + 1)) 202 i0 _ 5 64 Tryz.underlying143 hi hz0 hz1 hz2 rfl (by omega) _ _ _ rfl HO.out ⟨wc18.heap.size, 0, none⟩ 1 (exC v (.slice Ak v.kids.length ck)) rfl rfl HNw.out one5 (by (try simp only [List.length_cons, List.length_nil]); omega) (by simp; unfold maxLen; omega) C22.out.lo ?_
    intro v' w' ho hg hvv
    obtain ⟨A', c', hA'⟩ := own_shape ho
    subst hA'
    have M24 := Lib.hid (C22.out.more hks HKd.out HO.out ho hg hvv Y22.out).1
    have hcL := C22.out.va.of (C22.out.more hks HKd.out HO.out ho hg hvv Y22.out).2
    have hce := (hcL.cell 2 _ rfl).1
    have hcf := (hcL.cell 2 _ rfl).2
    clear ho hg hvv HO HKd HNw hcL
    refine hK.out _ _ trivial (fun hHeld => ?_)
    clear hK K
    simp only [Act.put, List.setIfInBounds_toArray, List.set_cons_zero, List.set_cons_succ]
    refine wpAnyH_take (i := 8) (v := ?vp13_t24) rfl (by kernel_rfl) (by kernel_rfl) (by kernel_rfl) (fun _ _ _ h => h) (Or.inl ⟨by kernel_rfl, ?yp13_t24⟩) (by assumption) ?rp13_t24
    case yp13_t24 => (intro w hSw; (try dsimp only at hSw); go_simp; (try with_reducible rfl))
    try simp only [Act.put, List.getElem_toArray, List.getElem_cons_zero, List.getElem_cons_succ, List.setIfInBounds_toArray, List.set_cons_zero, List.set_cons_succ]
    refine wpAnyH_ready (rs := [9]) (by kernel_rfl) (by simp) ?_
    refine AllReadyH.cons rfl (fun K hK => ?_) AllReadyH.nil
    go_simp
    refine hK.out _ _ trivial (fun hHeld => ?_)
    clear hK K hce hcf
    refine wpAnyH_done (by kernel_rfl) ?_ _
    go_wp2
    go_meet
    exact ⟨v, A', c', M24, HV⟩
 case rest =>
  obtain ⟨x1, A7, c7, HC7, HVx1⟩ := hcut
  generalize wc = v7 at *
  rw [← HT3.out] at HC7
  clear HC6
  go_wp2_with fail
  have K := Lib.hid (rmust R S σ3 [59] ⟨#[59]⟩ v7 HC7.out.st (by kernel_rfl) (by unfold Byn; decide))
  rw [← HT4.out] at K
  (with_reducible refine K.out.mono ?_)
  clear K
  rintro x v8 ⟨rfl, h1, h2⟩
  have HC8 := Lib.hid (HC7.out.moves h1 h2)
  clear h1 h2 HC7
  have HVl : Hid (∀ a r, m = .ok a r → a = .mk 5 [] [x1] [] [] P) := fun a r h => by
   obtain ⟨x, r2, e2, e3⟩ := HVa.out a r h
   rw [e3, HVx1.out x r2 e2]
  obtain ⟨⟨q0, q1, q2, q3, q4, q5⟩, _⟩ := HC8.out.cells
  go_wp2_with (refine wpList_storeN info43s rfl (.tmp 4) (.tmp 161) rfl rfl w.heap.size rfl [_, _, _, _, _, _] rfl rfl HC8.out.th (by simp [Value.oneCell']) ?_; intro wf g1 g2 g3 g4 g5)
  refine bodyPost_ret (ret_cell (cs := [_, _, _, _, _, _]) Tryz.results125 Tryz.underlying145 rfl info43s _ _ w.heap.size rfl g1) rfl ?_
  exact HC8.out.done (o := 5) (b := []) (f := []) (StsC.nothing _ _) (StsC.nothing _ _) m HU.out HVl.out g3 g4 g5
set_option maxHeartbeats 1600000 in
theorem w_del (R : Nat) (S : Src) (hsm : S.all.length ≤ 4096) (d : Nat) (e : Par Ex) (b : Par (List St)) (he : ExprR R S (d + 1) e) (hd : d ≤ 32) (σ σa : Res Unit) (w : World) (ha : Rs w R S σ) (hn0 : isR S.z kLet σ = false) (hn1 : isR S.z kIf σ = false) (hn2 : isR S.z kFor σ = false) (hn3 : isR S.z kRet σ = false) (hn4 : isR S.z kPut σ = false) (hT : isR S.z kDel σ = true) (hσ : passR S.z kDel σ = σa) (m : Res St) (hm : ∀ P, (∀ u ts, σ = .ok u ts → P = (peekT S.z ts).place) → m = (σa.bind fun _ ts => enclosedP S.z e ts).bind fun x r => (wantT S.z [59] r).bind fun _ r' => .ok (.mk 7 [] x [] [] P) r') :
  Calls Tryz.prog 125 #[.pointer (some ⟨R, 0, none⟩), .int .i64 d] w (RGot R S (QSt w.heap.size) w m) := by
 have HR := Lib.hid ha.lt
 have HE := Lib.hid he
 have HM0 := Lib.hid hm
 have HN0 := Lib.hid hn0
 have HN1 := Lib.hid hn1
 have HN2 := Lib.hid hn2
 have HN3 := Lib.hid hn3
 have HN4 := Lib.hid hn4
 have HT := Lib.hid hT
 have HSa := Lib.hid hσ
 have h0 := open_one ha stZ
 have K := Lib.hid (rplaceR R S σ _ h0.1)
 have HA := Lib.hid h0
 obtain ⟨i0, hi, hz0, hz1, hz2⟩ := info_parts info39
 have hwrap : IntKind.i64.wrap ((d : Int) + 1) = (d : Int) + 1 := IntWalk.i64_in _ (by omega)
 clear ha he hm h0 hn0 hn1 hn2 hn3 hn4 hT hσ
 unfold stZ at HA K
 go_enter Tryz.func125, Tryz.ntmps125
 go_wp2_with fail
 generalize hw0 : w.alloc (.cells #[.int .i64 0, .string ⟨#[]⟩, .slice none 0 0, .slice none 0 0, .slice none 0 0, .int .i64 0] 145) = w0 at *
 clear hw0
 (with_reducible refine K.out.mono ?_)
 clear K
 rintro x w1 ⟨P, rfl, hP, b1⟩
 have HM := Lib.hid (HM0.out P hP)
 have HS : Hid (SvC R S w w1.heap.size w.heap.size (w1.heap.size + 1) 0 [] [] (.slice none 0 0) (.slice none 0 0) (.slice none 0 0) P σ (w1.alloc (stB P))) := by
  have hz := HA.out.2.2.2.1
  have hsz := b1.size
  have h1 := HA.out.1.below b1 (Nat.le_refl _)
  have o1 := open_one h1 (stB P)
  have h2 : SvC R S w w1.heap.size w.heap.size (w1.alloc (stB P)).heap.size 0 [] [] (.slice none 0 0) (.slice none 0 0) (.slice none 0 0) P σ (w1.alloc (stB P)) := SvC.start o1.1 (VarAt.block (cs := [.int .i64 0, .string (strN []), .slice none 0 0, .slice none 0 0, .slice none 0 0, .int .i64 P]) (T := 145) o1.2.2.1) (((Moves.of_below HA.out.2.1 (Nat.le_refl _)).below b1 (Nat.le_refl _)).below o1.2.1 (Nat.le_refl _)) (by rw [o1.2.1.block _ (by omega), b1.block _ (by omega)]; exact HA.out.2.2.1) HR.out ⟨by omega, by simp⟩ ⟨Nat.le_refl _, by simp; omega⟩ (by omega)
  rw [o1.2.2.2.1] at h2
  exact h2
 have hRlo : R < w1.heap.size + 1 := by have := HR.out; have := HA.out.2.2.2.1; have := b1.size; omega
 have HLw : Hid (w.heap.size < w1.heap.size) := by have := HA.out.2.2.2.1; have := b1.size; show _ < _; omega
 clear HA HM0 hP b1
 go_wp2_with fail
 generalize w1.alloc (.cells #[.int .i64 0, .string ⟨#[]⟩, .slice none 0 0, .slice none 0 0, .slice none 0 0, .int .i64 (P : Int)] 145) = w2 at *
 have K := Lib.hid (rtake R S σ kLet ⟨#[108, 101, 116]⟩ w2 HS.out.st (by kernel_rfl) (by unfold Byn; decide))
 rw [HN0.out, pass_false HN0.out] at K
 (with_reducible refine K.out.mono ?_)
 clear K
 rintro x v1 ⟨rfl, h1, h2⟩
 have HC1 := Lib.hid (HS.out.moves h1 h2)
 clear h1 h2 HS
 go_wp2_with fail
 have K := Lib.hid (rtake R S σ kIf ⟨#[105, 102]⟩ v1 HC1.out.st (by kernel_rfl) (by unfold Byn; decide))
 rw [HN1.out, pass_false HN1.out] at K
 (with_reducible refine K.out.mono ?_)
 clear K
 rintro x v2 ⟨rfl, h1, h2⟩
 have HC2 := Lib.hid (HC1.out.moves h1 h2)
 clear h1 h2 HC1
 go_wp2_with fail
 have K := Lib.hid (rtake R S σ kFor ⟨#[102, 111, 114]⟩ v2 HC2.out.st (by kernel_rfl) (by unfold Byn; decide))
 rw [HN2.out, pass_false HN2.out] at K
 (with_reducible refine K.out.mono ?_)
 clear K
 rintro x v3 ⟨rfl, h1, h2⟩
 have HC3 := Lib.hid (HC2.out.moves h1 h2)
 clear h1 h2 HC2
 go_wp2_with fail
 have K := Lib.hid (rtake R S σ kRet ⟨#[114, 101, 116, 117, 114, 110]⟩ v3 HC3.out.st (by kernel_rfl) (by unfold Byn; decide))
 rw [HN3.out, pass_false HN3.out] at K
 (with_reducible refine K.out.mono ?_)
 clear K
 rintro x v4 ⟨rfl, h1, h2⟩
 have HC4 := Lib.hid (HC3.out.moves h1 h2)
 clear h1 h2 HC3
 go_wp2_with fail
 have K := Lib.hid (rtake R S σ kPut ⟨#[112, 117, 116]⟩ v4 HC4.out.st (by kernel_rfl) (by unfold Byn; decide))
 rw [HN4.out, pass_false HN4.out] at K
 (with_reducible refine K.out.mono ?_)
 clear K
 rintro x v5 ⟨rfl, h1, h2⟩
 have HC5 := Lib.hid (HC4.out.moves h1 h2)
 clear h1 h2 HC4
 go_wp2_with fail
 have K := Lib.hid (rtake R S σ kDel ⟨#[100, 101, 108]⟩ v5 HC5.out.st (by kernel_rfl) (by unfold Byn; decide))
 rw [HT.out, HSa.out] at K
 (with_reducible refine K.out.mono ?_)
 clear K
 rintro x v6 ⟨rfl, h1, h2⟩
 have HC6 := Lib.hid (HC5.out.moves h1 h2)
 clear h1 h2 HC5
 obtain ⟨σ1, hσ1⟩ : ∃ σ1, σ1 = mustR S.z [40] σa := ⟨_, rfl⟩
 obtain ⟨σ2, hσ2⟩ : ∃ σ2, σ2 = (σ1.bind fun _ ts => e ts).unit := ⟨_, rfl⟩
 obtain ⟨σ3, hσ3⟩ : ∃ σ3, σ3 = mustR S.z [41] σ2 := ⟨_, rfl⟩
 obtain ⟨σ4, hσ4⟩ : ∃ σ4, σ4 = mustR S.z [59] σ3 := ⟨_, rfl⟩
 have HU : Hid (m.unit = σ4) := by show _ = _; rw [HM.out, hσ4, hσ3, hσ2, hσ1, enc_eq]; exact (last_unit _ _ _ _).trans (by rw [one_unit])
 have HVa : Hid (∀ a r, m = .ok a r → ∃ x r2, (σ1.bind fun _ ts => e ts) = .ok x r2 ∧ a = .mk 7 [] [x] [] [] P) := fun a r h => by
  rw [HM.out, enc_eq] at h
  obtain ⟨x, r0, h1, h2⟩ := last_val h
  obtain ⟨y, r1, h3, h4⟩ := one_val h1
  exact ⟨y, r1, by rw [hσ1]; exact h3, by rw [h2, h4]⟩
 have HT1 := Lib.hid hσ1
 have HT2 := Lib.hid hσ2
 have HT3 := Lib.hid hσ3
 have HT4 := Lib.hid hσ4
 clear hσ1 hσ2 hσ3 hσ4 HM
 have f0 := HC6.out.cells
 have c0 := f0.1.1
 have b0 := f0.2.1
 clear f0
 have HC7 := Lib.hid (HC6.out.set0 7)
 go_wp2_with fail
 generalize v6.setCell ⟨w1.heap.size, 0, none⟩ (.int .i64 7) = v7 at *
 clear c0 b0 HC6
 have K := Lib.hid (rmust R S σa [40] ⟨#[40]⟩ v7 HC7.out.st (by kernel_rfl) (by unfold Byn; decide))
 rw [← HT1.out] at K
 (with_reducible refine K.out.mono ?_)
 clear K
 rintro x v8 ⟨rfl, h1, h2⟩
 have HC8 := Lib.hid (HC7.out.moves h1 h2)
 clear h1 h2 HC7
 go_wp2_with fail
 go_upto_region 39 with fail
 have K0 : Hid (∀ w1, Rs w1 R S σ1 → Calls Tryz.prog 150 #[.pointer (some ⟨R, 0, none⟩), .int .i64 ((d : Int) + 1)] w1 (RGot R S (QE w1.heap.size) w1 (σ1.bind fun _ ts => e ts))) := fun w1 h => HE.out _ w1 h
 go_cut [] (fun wx => ∃ (v : Ex) (A' : Option Addr) (c' : Nat), Hid (SvC R S w w1.heap.size w.heap.size (w1.heap.size + 1) 7 [] [v] (.slice A' 1 c') (.slice none 0 0) (.slice none 0 0) P (σ1.bind fun _ ts => e ts).unit wx) ∧ Hid (∀ a r, (σ1.bind fun _ ts => e ts) = .ok a r → v = a))
 case first =>
  have HD := Lib.hid (HC8.out.moves (w' := v8.drew) ⟨rfl, rfl, rfl, Nat.le_refl _, fun _ _ _ => rfl⟩ (HC8.out.st.below ((Below.refl v8.heap.size v8).drew) (Nat.le_refl _)))
  refine wp_region_held_drew (S := fun _ => True) (by kernel_rfl) trivial (fun hHeld => ?_)
  refine wpAnyH_take (i := 0) (v := ?vp25_0) rfl (by kernel_rfl) (by kernel_rfl) (by kernel_rfl) (fun _ _ _ h => h) (Or.inl ⟨by kernel_rfl, ?yp25_0⟩) (by assumption) ?rp25_0
  case yp25_0 => (intro w hSw; (try dsimp only at hSw); go_simp; (try with_reducible rfl))
  try simp only [Act.put, List.getElem_toArray, List.getElem_cons_zero, List.getElem_cons_succ, List.setIfInBounds_toArray, List.set_cons_zero, List.set_cons_succ]
  refine wpAnyH_take (i := 2) (v := ?vp25_2) rfl (by kernel_rfl) (by kernel_rfl) (by kernel_rfl) (fun _ _ _ h => h) (Or.inl ⟨by kernel_rfl, ?yp25_2⟩) (by assumption) ?rp25_2
  case yp25_2 => (intro w hSw; (try dsimp only at hSw); go_simp; (try with_reducible rfl))
  try simp only [Act.put, List.getElem_toArray, List.getElem_cons_zero, List.getElem_cons_succ, List.setIfInBounds_toArray, List.set_cons_zero, List.set_cons_succ]
  refine wpAnyH_take (i := 3) (v := ?vp25_3) rfl (by kernel_rfl) (by kernel_rfl) (by kernel_rfl) (fun _ _ _ h => h) (Or.inl ⟨by kernel_rfl, ?yp25_3⟩) (by assumption) ?rp25_3
  case yp25_3 => (intro w hSw; (try dsimp only at hSw); go_simp; (try with_reducible rfl))
  try simp only [Act.put, List.getElem_toArray, List.getElem_cons_zero, List.getElem_cons_succ, List.setIfInBounds_toArray, List.set_cons_zero, List.set_cons_succ]
  refine wpAnyH_take (i := 4) (v := ?vp25_4) rfl (by kernel_rfl) (by kernel_rfl) (by kernel_rfl) (fun _ _ _ h => h) (Or.inl ⟨by kernel_rfl, ?yp25_4⟩) (by assumption) ?rp25_4
  case yp25_4 => (intro w hSw; (try dsimp only at hSw); go_simp; (try with_reducible rfl))
  try simp only [Act.put, List.getElem_toArray, List.getElem_cons_zero, List.getElem_cons_succ, List.setIfInBounds_toArray, List.set_cons_zero, List.set_cons_succ]
  generalize v8.drew = wd at *
  refine wpAnyH_ready (rs := [1, 5]) (by kernel_rfl) (by simp) ?_
  refine AllReadyH.cons rfl (fun K hK => ?_) (AllReadyH.cons rfl (fun K hK => ?_) AllReadyH.nil)
  ·have hce := HD.out.cells.1.2.2.1
   go_simp
   clear hce
   refine hK.out _ _ trivial (fun hHeld => ?_)
   clear hK K
   refine wpAnyH_ready (rs := [5]) (by kernel_rfl) (by simp) ?_
   refine AllReadyH.cons rfl (fun K hK => ?_) AllReadyH.nil
   go_simp
   (try simp only [hwrap])
   with_reducible refine (K0.out wd HD.out.st).mono ?_
   rintro x wc27 ⟨hm, ⟨v, xv, rfl, hq, hv⟩, r2⟩
   obtain ⟨kk, rfl, hk, hk1⟩ := exV_cells hq
   obtain ⟨Ak, ck, rfl⟩ := exsC_slice hk
   have C27 := Lib.hid (HD.out.moves hm r2)
   have Y27 := Lib.hid (HD.out.apart hk)
   have HV := Lib.hid hv
   clear hm r2 hk hq hk1 hv
   refine hK.out _ _ trivial (fun hHeld => ?_)
   clear hK K
   refine wpAnyH_ready (rs := [6]) (by kernel_rfl) (by simp) ?_
   refine AllReadyH.cons rfl (fun K hK => ?_) AllReadyH.nil
   go_simp
   have mz := Moves.of_below (R := R) (below_alloc wc27 (exO v (.slice Ak v.kids.length ck))) (Nat.le_refl _)
   have C28 := Lib.hid (C27.out.moves mz (C27.out.st.below (below_alloc wc27 (exO v (.slice Ak v.kids.length ck))) (Nat.le_refl _)))
   have Z28 := Lib.hid (heap_alloc_new wc27 (exO v (.slice Ak v.kids.length ck)))
   have Y28 := Lib.hid (Y27.out.moves mz hRlo)
   clear mz
   generalize wc27.alloc (exO v (.slice Ak v.kids.length ck)) = wb28 at *
   refine hK.out _ _ trivial (fun hHeld => ?_)
   clear hK K
   obtain ⟨ks, hks, hown, hkid⟩ := C28.out.own
   have HO := Lib.hid hown
   have HKd := Lib.hid hkid
   clear hown hkid
   have HNw : Hid (∀ (j : Nat) (u : Value), (exC v (.slice Ak v.kids.length ck))[j]? = some u → wb28.cell? ((Addr.mk (wc27.heap.size) 0 none).add j) = some u) := fun j u hu => by
    rw [Addr.add_mid]
    exact range_of (cs := (exC v (.slice Ak v.kids.length ck))) Z28.out j u hu
   refine wpAnyH_ready (rs := [7]) (by kernel_rfl) (by simp) ?_
   refine AllReadyH.cons rfl (fun K hK => ?_) AllReadyH.nil
   rw [if_pos (by rfl)]
   refine wp_append_one _ (.tmp 149) (.tmp 154) 143 rfl ((w1.heap.size + 1)) 202 i0 _ 5 64 Tryz.underlying143 hi hz0 hz1 hz2 rfl (by omega) _ _ _ rfl HO.out ⟨wc27.heap.size, 0, none⟩ 1 (exC v (.slice Ak v.kids.length ck)) rfl rfl HNw.out one5 (by (try simp only [List.length_cons, List.length_nil]); omega) (by simp; unfold maxLen; omega) C28.out.lo ?_
   intro v' w' ho hg hvv
   obtain ⟨A', c', hA'⟩ := own_shape ho
   subst hA'
   have M29 := Lib.hid (C28.out.more hks HKd.out HO.out ho hg hvv Y28.out).1
   have hcL := C28.out.va.of (C28.out.more hks HKd.out HO.out ho hg hvv Y28.out).2
   have hce := (hcL.cell 2 _ rfl).1
   have hcf := (hcL.cell 2 _ rfl).2
   clear ho hg hvv HO HKd HNw hcL
   refine hK.out _ _ trivial (fun hHeld => ?_)
   clear hK K
   simp only [Act.put, List.setIfInBounds_toArray, List.set_cons_zero, List.set_cons_succ]
   refine wpAnyH_take (i := 8) (v := ?vp25_t29) rfl (by kernel_rfl) (by kernel_rfl) (by kernel_rfl) (fun _ _ _ h => h) (Or.inl ⟨by kernel_rfl, ?yp25_t29⟩) (by assumption) ?rp25_t29
   case yp25_t29 => (intro w hSw; (try dsimp only at hSw); go_simp; (try with_reducible rfl))
   try simp only [Act.put, List.getElem_toArray, List.getElem_cons_zero, List.getElem_cons_succ, List.setIfInBounds_toArray, List.set_cons_zero, List.set_cons_succ]
   refine wpAnyH_ready (rs := [9]) (by kernel_rfl) (by simp) ?_
   refine AllReadyH.cons rfl (fun K hK => ?_) AllReadyH.nil
   go_simp
   refine hK.out _ _ trivial (fun hHeld => ?_)
   clear hK K hce hcf
   refine wpAnyH_done (by kernel_rfl) ?_ _
   go_wp2
   go_meet
   exact ⟨v, A', c', M29, HV⟩
  ·go_simp
   (try simp only [hwrap])
   with_reducible refine (K0.out wd HD.out.st).mono ?_
   rintro x wc30 ⟨hm, ⟨v, xv, rfl, hq, hv⟩, r2⟩
   obtain ⟨kk, rfl, hk, hk1⟩ := exV_cells hq
   obtain ⟨Ak, ck, rfl⟩ := exsC_slice hk
   have C30 := Lib.hid (HD.out.moves hm r2)
   have Y30 := Lib.hid (HD.out.apart hk)
   have HV := Lib.hid hv
   clear hm r2 hk hq hk1 hv
   refine hK.out _ _ trivial (fun hHeld => ?_)
   clear hK K
   refine wpAnyH_ready (rs := [1, 6]) (by kernel_rfl) (by simp) ?_
   refine AllReadyH.cons rfl (fun K hK => ?_) (AllReadyH.cons rfl (fun K hK => ?_) AllReadyH.nil)
   ·have hce := C30.out.cells.1.2.2.1
    go_simp
    clear hce
    refine hK.out _ _ trivial (fun hHeld => ?_)
    clear hK K
    refine wpAnyH_ready (rs := [6]) (by kernel_rfl) (by simp) ?_
    refine AllReadyH.cons rfl (fun K hK => ?_) AllReadyH.nil
    go_simp
    have mz := Moves.of_below (R := R) (below_alloc wc30 (exO v (.slice Ak v.kids.length ck))) (Nat.le_refl _)
    have C32 := Lib.hid (C30.out.moves mz (C30.out.st.below (below_alloc wc30 (exO v (.slice Ak v.kids.length ck))) (Nat.le_refl _)))
    have Z32 := Lib.hid (heap_alloc_new wc30 (exO v (.slice Ak v.kids.length ck)))
    have Y32 := Lib.hid (Y30.out.moves mz hRlo)
    clear mz
    generalize wc30.alloc (exO v (.slice Ak v.kids.length ck)) = wb32 at *
    refine hK.out _ _ trivial (fun hHeld => ?_)
    clear hK K
    obtain ⟨ks, hks, hown, hkid⟩ := C32.out.own
    have HO := Lib.hid hown
    have HKd := Lib.hid hkid
    clear hown hkid
    have HNw : Hid (∀ (j : Nat) (u : Value), (exC v (.slice Ak v.kids.length ck))[j]? = some u → wb32.cell? ((Addr.mk (wc30.heap.size) 0 none).add j) = some u) := fun j u hu => by
     rw [Addr.add_mid]
     exact range_of (cs := (exC v (.slice Ak v.kids.length ck))) Z32.out j u hu
    refine wpAnyH_ready (rs := [7]) (by kernel_rfl) (by simp) ?_
    refine AllReadyH.cons rfl (fun K hK => ?_) AllReadyH.nil
    rw [if_pos (by rfl)]
    refine wp_append_one _ (.tmp 149) (.tmp 154) 143 rfl ((w1.heap.size + 1)) 202 i0 _ 5 64 Tryz.underlying143 hi hz0 hz1 hz2 rfl (by omega) _ _ _ rfl HO.out ⟨wc30.heap.size, 0, none⟩ 1 (exC v (.slice Ak v.kids.length ck)) rfl rfl HNw.out one5 (by (try simp only [List.length_cons, List.length_nil]); omega) (by simp; unfold maxLen; omega) C32.out.lo ?_
    intro v' w' ho hg hvv
    obtain ⟨A', c', hA'⟩ := own_shape ho
    subst hA'
    have M33 := Lib.hid (C32.out.more hks HKd.out HO.out ho hg hvv Y32.out).1
    have hcL := C32.out.va.of (C32.out.more hks HKd.out HO.out ho hg hvv Y32.out).2
    have hce := (hcL.cell 2 _ rfl).1
    have hcf := (hcL.cell 2 _ rfl).2
    clear ho hg hvv HO HKd HNw hcL
    refine hK.out _ _ trivial (fun hHeld => ?_)
    clear hK K
    simp only [Act.put, List.setIfInBounds_toArray, List.set_cons_zero, List.set_cons_succ]
    refine wpAnyH_take (i := 8) (v := ?vp25_t33) rfl (by kernel_rfl) (by kernel_rfl) (by kernel_rfl) (fun _ _ _ h => h) (Or.inl ⟨by kernel_rfl, ?yp25_t33⟩) (by assumption) ?rp25_t33
    case yp25_t33 => (intro w hSw; (try dsimp only at hSw); go_simp; (try with_reducible rfl))
    try simp only [Act.put, List.getElem_toArray, List.getElem_cons_zero, List.getElem_cons_succ, List.setIfInBounds_toArray, List.set_cons_zero, List.set_cons_succ]
    refine wpAnyH_ready (rs := [9]) (by kernel_rfl) (by simp) ?_
    refine AllReadyH.cons rfl (fun K hK => ?_) AllReadyH.nil
    go_simp
    refine hK.out _ _ trivial (fun hHeld => ?_)
    clear hK K hce hcf
    refine wpAnyH_done (by kernel_rfl) ?_ _
    go_wp2
    go_meet
    exact ⟨v, A', c', M33, HV⟩
   ·go_simp
    have mz := Moves.of_below (R := R) (below_alloc wc30 (exO v (.slice Ak v.kids.length ck))) (Nat.le_refl _)
    have C34 := Lib.hid (C30.out.moves mz (C30.out.st.below (below_alloc wc30 (exO v (.slice Ak v.kids.length ck))) (Nat.le_refl _)))
    have Z34 := Lib.hid (heap_alloc_new wc30 (exO v (.slice Ak v.kids.length ck)))
    have Y34 := Lib.hid (Y30.out.moves mz hRlo)
    clear mz
    generalize wc30.alloc (exO v (.slice Ak v.kids.length ck)) = wb34 at *
    refine hK.out _ _ trivial (fun hHeld => ?_)
    clear hK K
    refine wpAnyH_ready (rs := [1]) (by kernel_rfl) (by simp) ?_
    refine AllReadyH.cons rfl (fun K hK => ?_) AllReadyH.nil
    have hce := C34.out.cells.1.2.2.1
    go_simp
    clear hce
    refine hK.out _ _ trivial (fun hHeld => ?_)
    clear hK K
    obtain ⟨ks, hks, hown, hkid⟩ := C34.out.own
    have HO := Lib.hid hown
    have HKd := Lib.hid hkid
    clear hown hkid
    have HNw : Hid (∀ (j : Nat) (u : Value), (exC v (.slice Ak v.kids.length ck))[j]? = some u → wb34.cell? ((Addr.mk (wc30.heap.size) 0 none).add j) = some u) := fun j u hu => by
     rw [Addr.add_mid]
     exact range_of (cs := (exC v (.slice Ak v.kids.length ck))) Z34.out j u hu
    refine wpAnyH_ready (rs := [7]) (by kernel_rfl) (by simp) ?_
    refine AllReadyH.cons rfl (fun K hK => ?_) AllReadyH.nil
    rw [if_pos (by rfl)]
    refine wp_append_one _ (.tmp 149) (.tmp 154) 143 rfl ((w1.heap.size + 1)) 202 i0 _ 5 64 Tryz.underlying143 hi hz0 hz1 hz2 rfl (by omega) _ _ _ rfl HO.out ⟨wc30.heap.size, 0, none⟩ 1 (exC v (.slice Ak v.kids.length ck)) rfl rfl HNw.out one5 (by (try simp only [List.length_cons, List.length_nil]); omega) (by simp; unfold maxLen; omega) C34.out.lo ?_
    intro v' w' ho hg hvv
    obtain ⟨A', c', hA'⟩ := own_shape ho
    subst hA'
    have M36 := Lib.hid (C34.out.more hks HKd.out HO.out ho hg hvv Y34.out).1
    have hcL := C34.out.va.of (C34.out.more hks HKd.out HO.out ho hg hvv Y34.out).2
    have hce := (hcL.cell 2 _ rfl).1
    have hcf := (hcL.cell 2 _ rfl).2
    clear ho hg hvv HO HKd HNw hcL
    refine hK.out _ _ trivial (fun hHeld => ?_)
    clear hK K
    simp only [Act.put, List.setIfInBounds_toArray, List.set_cons_zero, List.set_cons_succ]
    refine wpAnyH_take (i := 8) (v := ?vp25_t36) rfl (by kernel_rfl) (by kernel_rfl) (by kernel_rfl) (fun _ _ _ h => h) (Or.inl ⟨by kernel_rfl, ?yp25_t36⟩) (by assumption) ?rp25_t36
    case yp25_t36 => (intro w hSw; (try dsimp only at hSw); go_simp; (try with_reducible rfl))
    try simp only [Act.put, List.getElem_toArray, List.getElem_cons_zero, List.getElem_cons_succ, List.setIfInBounds_toArray, List.set_cons_zero, List.set_cons_succ]
    refine wpAnyH_ready (rs := [9]) (by kernel_rfl) (by simp) ?_
    refine AllReadyH.cons rfl (fun K hK => ?_) AllReadyH.nil
    go_simp
    refine hK.out _ _ trivial (fun hHeld => ?_)
    clear hK K hce hcf
    refine wpAnyH_done (by kernel_rfl) ?_ _
    go_wp2
    go_meet
    exact ⟨v, A', c', M36, HV⟩
 case rest =>
  obtain ⟨x1, A9, c9, HC9, HVx1⟩ := hcut
  generalize wc = v9 at *
  rw [← HT2.out] at HC9
  clear HC8
  go_wp2_with fail
  have K := Lib.hid (rmust R S σ2 [41] ⟨#[41]⟩ v9 HC9.out.st (by kernel_rfl) (by unfold Byn; decide))
  rw [← HT3.out] at K
  (with_reducible refine K.out.mono ?_)
  clear K
  rintro x v10 ⟨rfl, h1, h2⟩
  have HC10 := Lib.hid (HC9.out.moves h1 h2)
  clear h1 h2 HC9
  go_wp2_with fail
  have K := Lib.hid (rmust R S σ3 [59] ⟨#[59]⟩ v10 HC10.out.st (by kernel_rfl) (by unfold Byn; decide))
  rw [← HT4.out] at K
  (with_reducible refine K.out.mono ?_)
  clear K
  rintro x v11 ⟨rfl, h1, h2⟩
  have HC11 := Lib.hid (HC10.out.moves h1 h2)
  clear h1 h2 HC10
  have HVl : Hid (∀ a r, m = .ok a r → a = .mk 7 [] [x1] [] [] P) := fun a r h => by
   obtain ⟨x, r2, e2, e3⟩ := HVa.out a r h
   rw [e3, HVx1.out x r2 e2]
  obtain ⟨⟨q0, q1, q2, q3, q4, q5⟩, _⟩ := HC11.out.cells
  go_wp2_with (refine wpList_storeN info43s rfl (.tmp 4) (.tmp 161) rfl rfl w.heap.size rfl [_, _, _, _, _, _] rfl rfl HC11.out.th (by simp [Value.oneCell']) ?_; intro wf g1 g2 g3 g4 g5)
  refine bodyPost_ret (ret_cell (cs := [_, _, _, _, _, _]) Tryz.results125 Tryz.underlying145 rfl info43s _ _ w.heap.size rfl g1) rfl ?_
  exact HC11.out.done (o := 7) (b := []) (f := []) (StsC.nothing _ _) (StsC.nothing _ _) m HU.out HVl.out g3 g4 g5
end
section
open Go.RowKit
set_option maxRecDepth 100000
set_option linter.unusedSimpArgs false
set_option linter.unusedVariables false
set_option maxHeartbeats 1600000 in
theorem w_put (R : Nat) (S : Src) (hsm : S.all.length ≤ 4096) (d : Nat) (e : Par Ex) (b : Par (List St)) (he : ExprR R S (d + 1) e) (hd : d ≤ 32) (σ σa : Res Unit) (w : World) (ha : Rs w R S σ) (hn0 : isR S.z kLet σ = false) (hn1 : isR S.z kIf σ = false) (hn2 : isR S.z kFor σ = false) (hn3 : isR S.z kRet σ = false) (hT : isR S.z kPut σ = true) (hσ : passR S.z kPut σ = σa) (m : Res St) (hm : ∀ P, (∀ u ts, σ = .ok u ts → P = (peekT S.z ts).place) → m = (σa.bind fun _ ts => pairP S.z e ts).bind fun x r => (wantT S.z [59] r).bind fun _ r' => .ok (.mk 6 [] x [] [] P) r') :
  Calls Tryz.prog 125 #[.pointer (some ⟨R, 0, none⟩), .int .i64 d] w (RGot R S (QSt w.heap.size) w m) := by
 have HR := Lib.hid ha.lt
 have HE := Lib.hid he
 have HM0 := Lib.hid hm
 have HN0 := Lib.hid hn0
 have HN1 := Lib.hid hn1
 have HN2 := Lib.hid hn2
 have HN3 := Lib.hid hn3
 have HT := Lib.hid hT
 have HSa := Lib.hid hσ
 have h0 := open_one ha stZ
 have K := Lib.hid (rplaceR R S σ _ h0.1)
 have HA := Lib.hid h0
 obtain ⟨i0, hi, hz0, hz1, hz2⟩ := info_parts info39
 have hwrap : IntKind.i64.wrap ((d : Int) + 1) = (d : Int) + 1 := IntWalk.i64_in _ (by omega)
 clear ha he hm h0 hn0 hn1 hn2 hn3 hT hσ
 unfold stZ at HA K
 go_enter Tryz.func125, Tryz.ntmps125
 go_wp2_with fail
 generalize hw0 : w.alloc (.cells #[.int .i64 0, .string ⟨#[]⟩, .slice none 0 0, .slice none 0 0, .slice none 0 0, .int .i64 0] 145) = w0 at *
 clear hw0
 (with_reducible refine K.out.mono ?_)
 clear K
 rintro x w1 ⟨P, rfl, hP, b1⟩
 have HM := Lib.hid (HM0.out P hP)
 have HS : Hid (SvC R S w w1.heap.size w.heap.size (w1.heap.size + 1) 0 [] [] (.slice none 0 0) (.slice none 0 0) (.slice none 0 0) P σ (w1.alloc (stB P))) := by
  have hz := HA.out.2.2.2.1
  have hsz := b1.size
  have h1 := HA.out.1.below b1 (Nat.le_refl _)
  have o1 := open_one h1 (stB P)
  have h2 : SvC R S w w1.heap.size w.heap.size (w1.alloc (stB P)).heap.size 0 [] [] (.slice none 0 0) (.slice none 0 0) (.slice none 0 0) P σ (w1.alloc (stB P)) := SvC.start o1.1 (VarAt.block (cs := [.int .i64 0, .string (strN []), .slice none 0 0, .slice none 0 0, .slice none 0 0, .int .i64 P]) (T := 145) o1.2.2.1) (((Moves.of_below HA.out.2.1 (Nat.le_refl _)).below b1 (Nat.le_refl _)).below o1.2.1 (Nat.le_refl _)) (by rw [o1.2.1.block _ (by omega), b1.block _ (by omega)]; exact HA.out.2.2.1) HR.out ⟨by omega, by simp⟩ ⟨Nat.le_refl _, by simp; omega⟩ (by omega)
  rw [o1.2.2.2.1] at h2
  exact h2
 have hRlo : R < w1.heap.size + 1 := by have := HR.out; have := HA.out.2.2.2.1; have := b1.size; omega
 have HLw : Hid (w.heap.size < w1.heap.size) := by have := HA.out.2.2.2.1; have := b1.size; show _ < _; omega
 clear HA HM0 hP b1
 go_wp2_with fail
 generalize w1.alloc (.cells #[.int .i64 0, .string ⟨#[]⟩, .slice none 0 0, .slice none 0 0, .slice none 0 0, .int .i64 (P : Int)] 145) = w2 at *
 have K := Lib.hid (rtake R S σ kLet ⟨#[108, 101, 116]⟩ w2 HS.out.st (by kernel_rfl) (by unfold Byn; decide))
 rw [HN0.out, pass_false HN0.out] at K
 (with_reducible refine K.out.mono ?_)
 clear K
 rintro x v1 ⟨rfl, h1, h2⟩
 have HC1 := Lib.hid (HS.out.moves h1 h2)
 clear h1 h2 HS
 go_wp2_with fail
 have K := Lib.hid (rtake R S σ kIf ⟨#[105, 102]⟩ v1 HC1.out.st (by kernel_rfl) (by unfold Byn; decide))
 rw [HN1.out, pass_false HN1.out] at K
 (with_reducible refine K.out.mono ?_)
 clear K
 rintro x v2 ⟨rfl, h1, h2⟩
 have HC2 := Lib.hid (HC1.out.moves h1 h2)
 clear h1 h2 HC1
 go_wp2_with fail
 have K := Lib.hid (rtake R S σ kFor ⟨#[102, 111, 114]⟩ v2 HC2.out.st (by kernel_rfl) (by unfold Byn; decide))
 rw [HN2.out, pass_false HN2.out] at K
 (with_reducible refine K.out.mono ?_)
 clear K
 rintro x v3 ⟨rfl, h1, h2⟩
 have HC3 := Lib.hid (HC2.out.moves h1 h2)
 clear h1 h2 HC2
 go_wp2_with fail
 have K := Lib.hid (rtake R S σ kRet ⟨#[114, 101, 116, 117, 114, 110]⟩ v3 HC3.out.st (by kernel_rfl) (by unfold Byn; decide))
 rw [HN3.out, pass_false HN3.out] at K
 (with_reducible refine K.out.mono ?_)
 clear K
 rintro x v4 ⟨rfl, h1, h2⟩
 have HC4 := Lib.hid (HC3.out.moves h1 h2)
 clear h1 h2 HC3
 go_wp2_with fail
 have K := Lib.hid (rtake R S σ kPut ⟨#[112, 117, 116]⟩ v4 HC4.out.st (by kernel_rfl) (by unfold Byn; decide))
 rw [HT.out, HSa.out] at K
 (with_reducible refine K.out.mono ?_)
 clear K
 rintro x v5 ⟨rfl, h1, h2⟩
 have HC5 := Lib.hid (HC4.out.moves h1 h2)
 clear h1 h2 HC4
 obtain ⟨σ1, hσ1⟩ : ∃ σ1, σ1 = mustR S.z [40] σa := ⟨_, rfl⟩
 obtain ⟨σ2, hσ2⟩ : ∃ σ2, σ2 = (σ1.bind fun _ ts => e ts).unit := ⟨_, rfl⟩
 obtain ⟨σ3, hσ3⟩ : ∃ σ3, σ3 = mustR S.z [44] σ2 := ⟨_, rfl⟩
 obtain ⟨σ4, hσ4⟩ : ∃ σ4, σ4 = (σ3.bind fun _ ts => e ts).unit := ⟨_, rfl⟩
 obtain ⟨σ5, hσ5⟩ : ∃ σ5, σ5 = mustR S.z [41] σ4 := ⟨_, rfl⟩
 obtain ⟨σ6, hσ6⟩ : ∃ σ6, σ6 = mustR S.z [59] σ5 := ⟨_, rfl⟩
 have HU : Hid (m.unit = σ6) := by show _ = _; rw [HM.out, hσ6, hσ5, hσ4, hσ3, hσ2, hσ1, pair_eq]; exact (last_unit _ _ _ _).trans (by rw [one_unit, then_unit, one_unit])
 have HVa : Hid (∀ a r, m = .ok a r → ∃ x r2 y r4, (σ1.bind fun _ ts => e ts) = .ok x r2 ∧ (σ3.bind fun _ ts => e ts) = .ok y r4 ∧ a = .mk 6 [] [x, y] [] [] P) := fun a r h => by
  rw [HM.out, pair_eq] at h
  obtain ⟨x, r0, h1, h2⟩ := last_val h
  obtain ⟨y, r1, h3, h4⟩ := one_val h1
  obtain ⟨x1, r5, y1, h5, h6, h7⟩ := then_val h3
  obtain ⟨x2, r6, h8, h9⟩ := one_val h5
  rw [one_unit] at h6
  subst h9
  exact ⟨x1, r6, y1, r1, by rw [hσ1]; exact h8, by rw [hσ3, hσ2, hσ1]; exact h6, by rw [h2, h4, h7]⟩
 have HT1 := Lib.hid hσ1
 have HT2 := Lib.hid hσ2
 have HT3 := Lib.hid hσ3
 have HT4 := Lib.hid hσ4
 have HT5 := Lib.hid hσ5
 have HT6 := Lib.hid hσ6
 clear hσ1 hσ2 hσ3 hσ4 hσ5 hσ6 HM
 have f0 := HC5.out.cells
 have c0 := f0.1.1
 have b0 := f0.2.1
 clear f0
 have HC6 := Lib.hid (HC5.out.set0 6)
 go_wp2_with fail
 generalize v5.setCell ⟨w1.heap.size, 0, none⟩ (.int .i64 6) = v6 at *
 clear c0 b0 HC5
 have K := Lib.hid (rmust R S σa [40] ⟨#[40]⟩ v6 HC6.out.st (by kernel_rfl) (by unfold Byn; decide))
 rw [← HT1.out] at K
 (with_reducible refine K.out.mono ?_)
 clear K
 rintro x v7 ⟨rfl, h1, h2⟩
 have HC7 := Lib.hid (HC6.out.moves h1 h2)
 clear h1 h2 HC6
 go_wp2_with fail
 go_upto_region 31 with fail
 have K0 : Hid (∀ w1, Rs w1 R S σ1 → Calls Tryz.prog 150 #[.pointer (some ⟨R, 0, none⟩), .int .i64 ((d : Int) + 1)] w1 (RGot R S (QE w1.heap.size) w1 (σ1.bind fun _ ts => e ts))) := fun w1 h => HE.out _ w1 h
 go_cut [] (fun wx => ∃ (v : Ex) (A' : Option Addr) (c' : Nat), Hid (SvC R S w w1.heap.size w.heap.size (w1.heap.size + 1) 6 [] [v] (.slice A' 1 c') (.slice none 0 0) (.slice none 0 0) P (σ1.bind fun _ ts => e ts).unit wx) ∧ Hid (∀ a r, (σ1.bind fun _ ts => e ts) = .ok a r → v = a))
 case first =>
  have HD := Lib.hid (HC7.out.moves (w' := v7.drew) ⟨rfl, rfl, rfl, Nat.le_refl _, fun _ _ _ => rfl⟩ (HC7.out.st.below ((Below.refl v7.heap.size v7).drew) (Nat.le_refl _)))
  refine wp_region_held_drew (S := fun _ => True) (by kernel_rfl) trivial (fun hHeld => ?_)
  refine wpAnyH_take (i := 0) (v := ?vp37_0) rfl (by kernel_rfl) (by kernel_rfl) (by kernel_rfl) (fun _ _ _ h => h) (Or.inl ⟨by kernel_rfl, ?yp37_0⟩) (by assumption) ?rp37_0
  case yp37_0 => (intro w hSw; (try dsimp only at hSw); go_simp; (try with_reducible rfl))
  try simp only [Act.put, List.getElem_toArray, List.getElem_cons_zero, List.getElem_cons_succ, List.setIfInBounds_toArray, List.set_cons_zero, List.set_cons_succ]
  refine wpAnyH_take (i := 2) (v := ?vp37_2) rfl (by kernel_rfl) (by kernel_rfl) (by kernel_rfl) (fun _ _ _ h => h) (Or.inl ⟨by kernel_rfl, ?yp37_2⟩) (by assumption) ?rp37_2
  case yp37_2 => (intro w hSw; (try dsimp only at hSw); go_simp; (try with_reducible rfl))
  try simp only [Act.put, List.getElem_toArray, List.getElem_cons_zero, List.getElem_cons_succ, List.setIfInBounds_toArray, List.set_cons_zero, List.set_cons_succ]
  refine wpAnyH_take (i := 3) (v := ?vp37_3) rfl (by kernel_rfl) (by kernel_rfl) (by kernel_rfl) (fun _ _ _ h => h) (Or.inl ⟨by kernel_rfl, ?yp37_3⟩) (by assumption) ?rp37_3
  case yp37_3 => (intro w hSw; (try dsimp only at hSw); go_simp; (try with_reducible rfl))
  try simp only [Act.put, List.getElem_toArray, List.getElem_cons_zero, List.getElem_cons_succ, List.setIfInBounds_toArray, List.set_cons_zero, List.set_cons_succ]
  refine wpAnyH_take (i := 4) (v := ?vp37_4) rfl (by kernel_rfl) (by kernel_rfl) (by kernel_rfl) (fun _ _ _ h => h) (Or.inl ⟨by kernel_rfl, ?yp37_4⟩) (by assumption) ?rp37_4
  case yp37_4 => (intro w hSw; (try dsimp only at hSw); go_simp; (try with_reducible rfl))
  try simp only [Act.put, List.getElem_toArray, List.getElem_cons_zero, List.getElem_cons_succ, List.setIfInBounds_toArray, List.set_cons_zero, List.set_cons_succ]
  generalize v7.drew = wd at *
  refine wpAnyH_ready (rs := [1, 5]) (by kernel_rfl) (by simp) ?_
  refine AllReadyH.cons rfl (fun K hK => ?_) (AllReadyH.cons rfl (fun K hK => ?_) AllReadyH.nil)
  ·have hce := HD.out.cells.1.2.2.1
   go_simp
   clear hce
   refine hK.out _ _ trivial (fun hHeld => ?_)
   clear hK K
   refine wpAnyH_ready (rs := [5]) (by kernel_rfl) (by simp) ?_
   refine AllReadyH.cons rfl (fun K hK => ?_) AllReadyH.nil
   go_simp
   (try simp only [hwrap])
   with_reducible refine (K0.out wd HD.out.st).mono ?_
   rintro x wc39 ⟨hm, ⟨v, xv, rfl, hq, hv⟩, r2⟩
   obtain ⟨kk, rfl, hk, hk1⟩ := exV_cells hq
   obtain ⟨Ak, ck, rfl⟩ := exsC_slice hk
   have C39 := Lib.hid (HD.out.moves hm r2)
   have Y39 := Lib.hid (HD.out.apart hk)
   have HV := Lib.hid hv
   clear hm r2 hk hq hk1 hv
   refine hK.out _ _ trivial (fun hHeld => ?_)
   clear hK K
   refine wpAnyH_ready (rs := [6]) (by kernel_rfl) (by simp) ?_
   refine AllReadyH.cons rfl (fun K hK => ?_) AllReadyH.nil
   go_simp
   have mz := Moves.of_below (R := R) (below_alloc wc39 (exO v (.slice Ak v.kids.length ck))) (Nat.le_refl _)
   have C40 := Lib.hid (C39.out.moves mz (C39.out.st.below (below_alloc wc39 (exO v (.slice Ak v.kids.length ck))) (Nat.le_refl _)))
   have Z40 := Lib.hid (heap_alloc_new wc39 (exO v (.slice Ak v.kids.length ck)))
   have Y40 := Lib.hid (Y39.out.moves mz hRlo)
   clear mz
   generalize wc39.alloc (exO v (.slice Ak v.kids.length ck)) = wb40 at *
   refine hK.out _ _ trivial (fun hHeld => ?_)
   clear hK K
   obtain ⟨ks, hks, hown, hkid⟩ := C40.out.own
   have HO := Lib.hid hown
   have HKd := Lib.hid hkid
   clear hown hkid
   have HNw : Hid (∀ (j : Nat) (u : Value), (exC v (.slice Ak v.kids.length ck))[j]? = some u → wb40.cell? ((Addr.mk (wc39.heap.size) 0 none).add j) = some u) := fun j u hu => by
    rw [Addr.add_mid]
    exact range_of (cs := (exC v (.slice Ak v.kids.length ck))) Z40.out j u hu
   refine wpAnyH_ready (rs := [7]) (by kernel_rfl) (by simp) ?_
   refine AllReadyH.cons rfl (fun K hK => ?_) AllReadyH.nil
   rw [if_pos (by rfl)]
   refine wp_append_one _ (.tmp 119) (.tmp 124) 143 rfl ((w1.heap.size + 1)) 202 i0 _ 5 64 Tryz.underlying143 hi hz0 hz1 hz2 rfl (by omega) _ _ _ rfl HO.out ⟨wc39.heap.size, 0, none⟩ 1 (exC v (.slice Ak v.kids.length ck)) rfl rfl HNw.out one5 (by (try simp only [List.length_cons, List.length_nil]); omega) (by simp; unfold maxLen; omega) C40.out.lo ?_
   intro v' w' ho hg hvv
   obtain ⟨A', c', hA'⟩ := own_shape ho
   subst hA'
   have M41 := Lib.hid (C40.out.more hks HKd.out HO.out ho hg hvv Y40.out).1
   have hcL := C40.out.va.of (C40.out.more hks HKd.out HO.out ho hg hvv Y40.out).2
   have hce := (hcL.cell 2 _ rfl).1
   have hcf := (hcL.cell 2 _ rfl).2
   clear ho hg hvv HO HKd HNw hcL
   refine hK.out _ _ trivial (fun hHeld => ?_)
   clear hK K
   simp only [Act.put, List.setIfInBounds_toArray, List.set_cons_zero, List.set_cons_succ]
   refine wpAnyH_take (i := 8) (v := ?vp37_t41) rfl (by kernel_rfl) (by kernel_rfl) (by kernel_rfl) (fun _ _ _ h => h) (Or.inl ⟨by kernel_rfl, ?yp37_t41⟩) (by assumption) ?rp37_t41
   case yp37_t41 => (intro w hSw; (try dsimp only at hSw); go_simp; (try with_reducible rfl))
   try simp only [Act.put, List.getElem_toArray, List.getElem_cons_zero, List.getElem_cons_succ, List.setIfInBounds_toArray, List.set_cons_zero, List.set_cons_succ]
   refine wpAnyH_ready (rs := [9]) (by kernel_rfl) (by simp) ?_
   refine AllReadyH.cons rfl (fun K hK => ?_) AllReadyH.nil
   go_simp
   refine hK.out _ _ trivial (fun hHeld => ?_)
   clear hK K hce hcf
   refine wpAnyH_done (by kernel_rfl) ?_ _
   go_wp2
   go_meet
   exact ⟨v, A', c', M41, HV⟩
  ·go_simp
   (try simp only [hwrap])
   with_reducible refine (K0.out wd HD.out.st).mono ?_
   rintro x wc42 ⟨hm, ⟨v, xv, rfl, hq, hv⟩, r2⟩
   obtain ⟨kk, rfl, hk, hk1⟩ := exV_cells hq
   obtain ⟨Ak, ck, rfl⟩ := exsC_slice hk
   have C42 := Lib.hid (HD.out.moves hm r2)
   have Y42 := Lib.hid (HD.out.apart hk)
   have HV := Lib.hid hv
   clear hm r2 hk hq hk1 hv
   refine hK.out _ _ trivial (fun hHeld => ?_)
   clear hK K
   refine wpAnyH_ready (rs := [1, 6]) (by kernel_rfl) (by simp) ?_
   refine AllReadyH.cons rfl (fun K hK => ?_) (AllReadyH.cons rfl (fun K hK => ?_) AllReadyH.nil)
   ·have hce := C42.out.cells.1.2.2.1
    go_simp
    clear hce
    refine hK.out _ _ trivial (fun hHeld => ?_)
    clear hK K
    refine wpAnyH_ready (rs := [6]) (by kernel_rfl) (by simp) ?_
    refine AllReadyH.cons rfl (fun K hK => ?_) AllReadyH.nil
    go_simp
    have mz := Moves.of_below (R := R) (below_alloc wc42 (exO v (.slice Ak v.kids.length ck))) (Nat.le_refl _)
    have C44 := Lib.hid (C42.out.moves mz (C42.out.st.below (below_alloc wc42 (exO v (.slice Ak v.kids.length ck))) (Nat.le_refl _)))
    have Z44 := Lib.hid (heap_alloc_new wc42 (exO v (.slice Ak v.kids.length ck)))
    have Y44 := Lib.hid (Y42.out.moves mz hRlo)
    clear mz
    generalize wc42.alloc (exO v (.slice Ak v.kids.length ck)) = wb44 at *
    refine hK.out _ _ trivial (fun hHeld => ?_)
    clear hK K
    obtain ⟨ks, hks, hown, hkid⟩ := C44.out.own
    have HO := Lib.hid hown
    have HKd := Lib.hid hkid
    clear hown hkid
    have HNw : Hid (∀ (j : Nat) (u : Value), (exC v (.slice Ak v.kids.length ck))[j]? = some u → wb44.cell? ((Addr.mk (wc42.heap.size) 0 none).add j) = some u) := fun j u hu => by
     rw [Addr.add_mid]
     exact range_of (cs := (exC v (.slice Ak v.kids.length ck))) Z44.out j u hu
    refine wpAnyH_ready (rs := [7]) (by kernel_rfl) (by simp) ?_
    refine AllReadyH.cons rfl (fun K hK => ?_) AllReadyH.nil
    rw [if_pos (by rfl)]
    refine wp_append_one _ (.tmp 119) (.tmp 124) 143 rfl ((w1.heap.size + 1)) 202 i0 _ 5 64 Tryz.underlying143 hi hz0 hz1 hz2 rfl (by omega) _ _ _ rfl HO.out ⟨wc42.heap.size, 0, none⟩ 1 (exC v (.slice Ak v.kids.length ck)) rfl rfl HNw.out one5 (by (try simp only [List.length_cons, List.length_nil]); omega) (by simp; unfold maxLen; omega) C44.out.lo ?_
    intro v' w' ho hg hvv
    obtain ⟨A', c', hA'⟩ := own_shape ho
    subst hA'
    have M45 := Lib.hid (C44.out.more hks HKd.out HO.out ho hg hvv Y44.out).1
    have hcL := C44.out.va.of (C44.out.more hks HKd.out HO.out ho hg hvv Y44.out).2
    have hce := (hcL.cell 2 _ rfl).1
    have hcf := (hcL.cell 2 _ rfl).2
    clear ho hg hvv HO HKd HNw hcL
    refine hK.out _ _ trivial (fun hHeld => ?_)
    clear hK K
    simp only [Act.put, List.setIfInBounds_toArray, List.set_cons_zero, List.set_cons_succ]
    refine wpAnyH_take (i := 8) (v := ?vp37_t45) rfl (by kernel_rfl) (by kernel_rfl) (by kernel_rfl) (fun _ _ _ h => h) (Or.inl ⟨by kernel_rfl, ?yp37_t45⟩) (by assumption) ?rp37_t45
    case yp37_t45 => (intro w hSw; (try dsimp only at hSw); go_simp; (try with_reducible rfl))
    try simp only [Act.put, List.getElem_toArray, List.getElem_cons_zero, List.getElem_cons_succ, List.setIfInBounds_toArray, List.set_cons_zero, List.set_cons_succ]
    refine wpAnyH_ready (rs := [9]) (by kernel_rfl) (by simp) ?_
    refine AllReadyH.cons rfl (fun K hK => ?_) AllReadyH.nil
    go_simp
    refine hK.out _ _ trivial (fun hHeld => ?_)
    clear hK K hce hcf
    refine wpAnyH_done (by kernel_rfl) ?_ _
    go_wp2
    go_meet
    exact ⟨v, A', c', M45, HV⟩
   ·go_simp
    have mz := Moves.of_below (R := R) (below_alloc wc42 (exO v (.slice Ak v.kids.length ck))) (Nat.le_refl _)
    have C46 := Lib.hid (C42.out.moves mz (C42.out.st.below (below_alloc wc42 (exO v (.slice Ak v.kids.length ck))) (Nat.le_refl _)))
    have Z46 := Lib.hid (heap_alloc_new wc42 (exO v (.slice Ak v.kids.length ck)))
    have Y46 := Lib.hid (Y42.out.moves mz hRlo)
    clear mz
    generalize wc42.alloc (exO v (.slice Ak v.kids.length ck)) = wb46 at *
    refine hK.out _ _ trivial (fun hHeld => ?_)
    clear hK K
    refine wpAnyH_ready (rs := [1]) (by kernel_rfl) (by simp) ?_
    refine AllReadyH.cons rfl (fun K hK => ?_) AllReadyH.nil
    have hce := C46.out.cells.1.2.2.1
    go_simp
    clear hce
    refine hK.out _ _ trivial (fun hHeld => ?_)
    clear hK K
    obtain ⟨ks, hks, hown, hkid⟩ := C46.out.own
    have HO := Lib.hid hown
    have HKd := Lib.hid hkid
    clear hown hkid
    have HNw : Hid (∀ (j : Nat) (u : Value), (exC v (.slice Ak v.kids.length ck))[j]? = some u → wb46.cell? ((Addr.mk (wc42.heap.size) 0 none).add j) = some u) := fun j u hu => by
     rw [Addr.add_mid]
     exact range_of (cs := (exC v (.slice Ak v.kids.length ck))) Z46.out j u hu
    refine wpAnyH_ready (rs := [7]) (by kernel_rfl) (by simp) ?_
    refine AllReadyH.cons rfl (fun K hK => ?_) AllReadyH.nil
    rw [if_pos (by rfl)]
    refine wp_append_one _ (.tmp 119) (.tmp 124) 143 rfl ((w1.heap.size + 1)) 202 i0 _ 5 64 Tryz.underlying143 hi hz0 hz1 hz2 rfl (by omega) _ _ _ rfl HO.out ⟨wc42.heap.size, 0, none⟩ 1 (exC v (.slice Ak v.kids.length ck)) rfl rfl HNw.out one5 (by (try simp only [List.length_cons, List.length_nil]); omega) (by simp; unfold maxLen; omega) C46.out.lo ?_
    intro v' w' ho hg hvv
    obtain ⟨A', c', hA'⟩ := own_shape ho
    subst hA'
    have M48 := Lib.hid (C46.out.more hks HKd.out HO.out ho hg hvv Y46.out).1
    have hcL := C46.out.va.of (C46.out.more hks HKd.out HO.out ho hg hvv Y46.out).2
    have hce := (hcL.cell 2 _ rfl).1
    have hcf := (hcL.cell 2 _ rfl).2
    clear ho hg hvv HO HKd HNw hcL
    refine hK.out _ _ trivial (fun hHeld => ?_)
    clear hK K
    simp only [Act.put, List.setIfInBounds_toArray, List.set_cons_zero, List.set_cons_succ]
    refine wpAnyH_take (i := 8) (v := ?vp37_t48) rfl (by kernel_rfl) (by kernel_rfl) (by kernel_rfl) (fun _ _ _ h => h) (Or.inl ⟨by kernel_rfl, ?yp37_t48⟩) (by assumption) ?rp37_t48
    case yp37_t48 => (intro w hSw; (try dsimp only at hSw); go_simp; (try with_reducible rfl))
    try simp only [Act.put, List.getElem_toArray, List.getElem_cons_zero, List.getElem_cons_succ, List.setIfInBounds_toArray, List.set_cons_zero, List.set_cons_succ]
    refine wpAnyH_ready (rs := [9]) (by kernel_rfl) (by simp) ?_
    refine AllReadyH.cons rfl (fun K hK => ?_) AllReadyH.nil
    go_simp
    refine hK.out _ _ trivial (fun hHeld => ?_)
    clear hK K hce hcf
    refine wpAnyH_done (by kernel_rfl) ?_ _
    go_wp2
    go_meet
    exact ⟨v, A', c', M48, HV⟩
 case rest =>
  obtain ⟨x1, A8, c8, HC8, HVx1⟩ := hcut
  generalize wc = v8 at *
  rw [← HT2.out] at HC8
  clear HC7
  go_wp2_with fail
  have K := Lib.hid (rmust R S σ2 [44] ⟨#[44]⟩ v8 HC8.out.st (by kernel_rfl) (by unfold Byn; decide))
  rw [← HT3.out] at K
  (with_reducible refine K.out.mono ?_)
  clear K
  rintro x v9 ⟨rfl, h1, h2⟩
  have HC9 := Lib.hid (HC8.out.moves h1 h2)
  clear h1 h2 HC8
  go_wp2_with fail
  go_upto_region 33 with fail
  have K0 : Hid (∀ w1, Rs w1 R S σ3 → Calls Tryz.prog 150 #[.pointer (some ⟨R, 0, none⟩), .int .i64 ((d : Int) + 1)] w1 (RGot R S (QE w1.heap.size) w1 (σ3.bind fun _ ts => e ts))) := fun w1 h => HE.out _ w1 h
  go_cut [] (fun wx => ∃ (v : Ex) (A' : Option Addr) (c' : Nat), Hid (SvC R S w w1.heap.size w.heap.size (w1.heap.size + 1) 6 [] [x1, v] (.slice A' 2 c') (.slice none 0 0) (.slice none 0 0) P (σ3.bind fun _ ts => e ts).unit wx) ∧ Hid (∀ a r, (σ3.bind fun _ ts => e ts) = .ok a r → v = a))
  case first =>
   have HD := Lib.hid (HC9.out.moves (w' := v9.drew) ⟨rfl, rfl, rfl, Nat.le_refl _, fun _ _ _ => rfl⟩ (HC9.out.st.below ((Below.refl v9.heap.size v9).drew) (Nat.le_refl _)))
   refine wp_region_held_drew (S := fun _ => True) (by kernel_rfl) trivial (fun hHeld => ?_)
   refine wpAnyH_take (i := 0) (v := ?vp49_0) rfl (by kernel_rfl) (by kernel_rfl) (by kernel_rfl) (fun _ _ _ h => h) (Or.inl ⟨by kernel_rfl, ?yp49_0⟩) (by assumption) ?rp49_0
   case yp49_0 => (intro w hSw; (try dsimp only at hSw); go_simp; (try with_reducible rfl))
   try simp only [Act.put, List.getElem_toArray, List.getElem_cons_zero, List.getElem_cons_succ, List.setIfInBounds_toArray, List.set_cons_zero, List.set_cons_succ]
   refine wpAnyH_take (i := 2) (v := ?vp49_2) rfl (by kernel_rfl) (by kernel_rfl) (by kernel_rfl) (fun _ _ _ h => h) (Or.inl ⟨by kernel_rfl, ?yp49_2⟩) (by assumption) ?rp49_2
   case yp49_2 => (intro w hSw; (try dsimp only at hSw); go_simp; (try with_reducible rfl))
   try simp only [Act.put, List.getElem_toArray, List.getElem_cons_zero, List.getElem_cons_succ, List.setIfInBounds_toArray, List.set_cons_zero, List.set_cons_succ]
   refine wpAnyH_take (i := 3) (v := ?vp49_3) rfl (by kernel_rfl) (by kernel_rfl) (by kernel_rfl) (fun _ _ _ h => h) (Or.inl ⟨by kernel_rfl, ?yp49_3⟩) (by assumption) ?rp49_3
   case yp49_3 => (intro w hSw; (try dsimp only at hSw); go_simp; (try with_reducible rfl))
   try simp only [Act.put, List.getElem_toArray, List.getElem_cons_zero, List.getElem_cons_succ, List.setIfInBounds_toArray, List.set_cons_zero, List.set_cons_succ]
   refine wpAnyH_take (i := 4) (v := ?vp49_4) rfl (by kernel_rfl) (by kernel_rfl) (by kernel_rfl) (fun _ _ _ h => h) (Or.inl ⟨by kernel_rfl, ?yp49_4⟩) (by assumption) ?rp49_4
   case yp49_4 => (intro w hSw; (try dsimp only at hSw); go_simp; (try with_reducible rfl))
   try simp only [Act.put, List.getElem_toArray, List.getElem_cons_zero, List.getElem_cons_succ, List.setIfInBounds_toArray, List.set_cons_zero, List.set_cons_succ]
   generalize v9.drew = wd at *
   refine wpAnyH_ready (rs := [1, 5]) (by kernel_rfl) (by simp) ?_
   refine AllReadyH.cons rfl (fun K hK => ?_) (AllReadyH.cons rfl (fun K hK => ?_) AllReadyH.nil)
   ·have hce := HD.out.cells.1.2.2.1
    go_simp
    clear hce
    refine hK.out _ _ trivial (fun hHeld => ?_)
    clear hK K
    refine wpAnyH_ready (rs := [5]) (by kernel_rfl) (by simp) ?_
    refine AllReadyH.cons rfl (fun K hK => ?_) AllReadyH.nil
    go_simp
    (try simp only [hwrap])
    with_reducible refine (K0.out wd HD.out.st).mono ?_
    rintro x wc51 ⟨hm, ⟨v, xv, rfl, hq, hv⟩, r2⟩
    obtain ⟨kk, rfl, hk, hk1⟩ := exV_cells hq
    obtain ⟨Ak, ck, rfl⟩ := exsC_slice hk
    have C51 := Lib.hid (HD.out.moves hm r2)
    have Y51 := Lib.hid (HD.out.apart hk)
    have HV := Lib.hid hv
    clear hm r2 hk hq hk1 hv
    refine hK.out _ _ trivial (fun hHeld => ?_)
    clear hK K
    refine wpAnyH_ready (rs := [6]) (by kernel_rfl) (by simp) ?_
    refine AllReadyH.cons rfl (fun K hK => ?_) AllReadyH.nil
    go_simp
    have mz := Moves.of_below (R := R) (below_alloc wc51 (exO v (.slice Ak v.kids.length ck))) (Nat.le_refl _)
    have C52 := Lib.hid (C51.out.moves mz (C51.out.st.below (below_alloc wc51 (exO v (.slice Ak v.kids.length ck))) (Nat.le_refl _)))
    have Z52 := Lib.hid (heap_alloc_new wc51 (exO v (.slice Ak v.kids.length ck)))
    have Y52 := Lib.hid (Y51.out.moves mz hRlo)
    clear mz
    generalize wc51.alloc (exO v (.slice Ak v.kids.length ck)) = wb52 at *
    refine hK.out _ _ trivial (fun hHeld => ?_)
    clear hK K
    obtain ⟨ks, hks, hown, hkid⟩ := C52.out.own
    have HO := Lib.hid hown
    have HKd := Lib.hid hkid
    clear hown hkid
    have HNw : Hid (∀ (j : Nat) (u : Value), (exC v (.slice Ak v.kids.length ck))[j]? = some u → wb52.cell? ((Addr.mk (wc51.heap.size) 0 none).add j) = some u) := fun j u hu => by
     rw [Addr.add_mid]
     exact range_of (cs := (exC v (.slice Ak v.kids.length ck))) Z52.out j u hu
    refine wpAnyH_ready (rs := [7]) (by kernel_rfl) (by simp) ?_
    refine AllReadyH.cons rfl (fun K hK => ?_) AllReadyH.nil
    rw [if_pos (by rfl)]
    refine wp_append_one _ (.tmp 130) (.tmp 135) 143 rfl ((w1.heap.size + 1)) 202 i0 _ 5 64 Tryz.underlying143 hi hz0 hz1 hz2 rfl (by omega) _ _ _ rfl HO.out ⟨wc51.heap.size, 0, none⟩ 1 (exC v (.slice Ak v.kids.length ck)) rfl rfl HNw.out one5 (by (try simp only [List.length_cons, List.length_nil]); omega) (by simp; unfold maxLen; omega) C52.out.lo ?_
    intro v' w' ho hg hvv
    obtain ⟨A', c', hA'⟩ := own_shape ho
    subst hA'
    have M53 := Lib.hid (C52.out.more hks HKd.out HO.out ho hg hvv Y52.out).1
    have hcL := C52.out.va.of (C52.out.more hks HKd.out HO.out ho hg hvv Y52.out).2
    have hce := (hcL.cell 2 _ rfl).1
    have hcf := (hcL.cell 2 _ rfl).2
    clear ho hg hvv HO HKd HNw hcL
    refine hK.out _ _ trivial (fun hHeld => ?_)
    clear hK K
    simp only [Act.put, List.setIfInBounds_toArray, List.set_cons_zero, List.set_cons_succ]
    refine wpAnyH_take (i := 8) (v := ?vp49_t53) rfl (by kernel_rfl) (by kernel_rfl) (by kernel_rfl) (fun _ _ _ h => h) (Or.inl ⟨by kernel_rfl, ?yp49_t53⟩) (by assumption) ?rp49_t53
    case yp49_t53 => (intro w hSw; (try dsimp only at hSw); go_simp; (try with_reducible rfl))
    try simp only [Act.put, List.getElem_toArray, List.getElem_cons_zero, List.getElem_cons_succ, List.setIfInBounds_toArray, List.set_cons_zero, List.set_cons_succ]
    refine wpAnyH_ready (rs := [9]) (by kernel_rfl) (by simp) ?_
    refine AllReadyH.cons rfl (fun K hK => ?_) AllReadyH.nil
    go_simp
    refine hK.out _ _ trivial (fun hHeld => ?_)
    clear hK K hce hcf
    refine wpAnyH_done (by kernel_rfl) ?_ _
    go_wp2
    go_meet
    exact ⟨v, A', c', M53, HV⟩
   ·go_simp
    (try simp only [hwrap])
    with_reducible refine (K0.out wd HD.out.st).mono ?_
    rintro x wc54 ⟨hm, ⟨v, xv, rfl, hq, hv⟩, r2⟩
    obtain ⟨kk, rfl, hk, hk1⟩ := exV_cells hq
    obtain ⟨Ak, ck, rfl⟩ := exsC_slice hk
    have C54 := Lib.hid (HD.out.moves hm r2)
    have Y54 := Lib.hid (HD.out.apart hk)
    have HV := Lib.hid hv
    clear hm r2 hk hq hk1 hv
    refine hK.out _ _ trivial (fun hHeld => ?_)
    clear hK K
    refine wpAnyH_ready (rs := [1, 6]) (by kernel_rfl) (by simp) ?_
    refine AllReadyH.cons rfl (fun K hK => ?_) (AllReadyH.cons rfl (fun K hK => ?_) AllReadyH.nil)
    ·have hce := C54.out.cells.1.2.2.1
     go_simp
     clear hce
     refine hK.out _ _ trivial (fun hHeld => ?_)
     clear hK K
     refine wpAnyH_ready (rs := [6]) (by kernel_rfl) (by simp) ?_
     refine AllReadyH.cons rfl (fun K hK => ?_) AllReadyH.nil
     go_simp
     have mz := Moves.of_below (R := R) (below_alloc wc54 (exO v (.slice Ak v.kids.length ck))) (Nat.le_refl _)
     have C56 := Lib.hid (C54.out.moves mz (C54.out.st.below (below_alloc wc54 (exO v (.slice Ak v.kids.length ck))) (Nat.le_refl _)))
     have Z56 := Lib.hid (heap_alloc_new wc54 (exO v (.slice Ak v.kids.length ck)))
     have Y56 := Lib.hid (Y54.out.moves mz hRlo)
     clear mz
     generalize wc54.alloc (exO v (.slice Ak v.kids.length ck)) = wb56 at *
     refine hK.out _ _ trivial (fun hHeld => ?_)
     clear hK K
     obtain ⟨ks, hks, hown, hkid⟩ := C56.out.own
     have HO := Lib.hid hown
     have HKd := Lib.hid hkid
     clear hown hkid
     have HNw : Hid (∀ (j : Nat) (u : Value), (exC v (.slice Ak v.kids.length ck))[j]? = some u → wb56.cell? ((Addr.mk (wc54.heap.size) 0 none).add j) = some u) := fun j u hu => by
      rw [Addr.add_mid]
      exact range_of (cs := (exC v (.slice Ak v.kids.length ck))) Z56.out j u hu
     refine wpAnyH_ready (rs := [7]) (by kernel_rfl) (by simp) ?_
     refine AllReadyH.cons rfl (fun K hK => ?_) AllReadyH.nil
     rw [if_pos (by rfl)]
     refine wp_append_one _ (.tmp 130) (.tmp 135) 143 rfl ((w1.heap.size + 1)) 202 i0 _ 5 64 Tryz.underlying143 hi hz0 hz1 hz2 rfl (by omega) _ _ _ rfl HO.out ⟨wc54.heap.size, 0, none⟩ 1 (exC v (.slice Ak v.kids.length ck)) rfl rfl HNw.out one5 (by (try simp only [List.length_cons, List.length_nil]); omega) (by simp; unfold maxLen; omega) C56.out.lo ?_
     intro v' w' ho hg hvv
     obtain ⟨A', c', hA'⟩ := own_shape ho
     subst hA'
     have M57 := Lib.hid (C56.out.more hks HKd.out HO.out ho hg hvv Y56.out).1
     have hcL := C56.out.va.of (C56.out.more hks HKd.out HO.out ho hg hvv Y56.out).2
     have hce := (hcL.cell 2 _ rfl).1
     have hcf := (hcL.cell 2 _ rfl).2
     clear ho hg hvv HO HKd HNw hcL
     refine hK.out _ _ trivial (fun hHeld => ?_)
     clear hK K
     simp only [Act.put, List.setIfInBounds_toArray, List.set_cons_zero, List.set_cons_succ]
     refine wpAnyH_take (i := 8) (v := ?vp49_t57) rfl (by kernel_rfl) (by kernel_rfl) (by kernel_rfl) (fun _ _ _ h => h) (Or.inl ⟨by kernel_rfl, ?yp49_t57⟩) (by assumption) ?rp49_t57
     case yp49_t57 => (intro w hSw; (try dsimp only at hSw); go_simp; (try with_reducible rfl))
     try simp only [Act.put, List.getElem_toArray, List.getElem_cons_zero, List.getElem_cons_succ, List.setIfInBounds_toArray, List.set_cons_zero, List.set_cons_succ]
     refine wpAnyH_ready (rs := [9]) (by kernel_rfl) (by simp) ?_
     refine AllReadyH.cons rfl (fun K hK => ?_) AllReadyH.nil
     go_simp
     refine hK.out _ _ trivial (fun hHeld => ?_)
     clear hK K hce hcf
     refine wpAnyH_done (by kernel_rfl) ?_ _
     go_wp2
     go_meet
     exact ⟨v, A', c', M57, HV⟩
    ·go_simp
     have mz := Moves.of_below (R := R) (below_alloc wc54 (exO v (.slice Ak v.kids.length ck))) (Nat.le_refl _)
     have C58 := Lib.hid (C54.out.moves mz (C54.out.st.below (below_alloc wc54 (exO v (.slice Ak v.kids.length ck))) (Nat.le_refl _)))
     have Z58 := Lib.hid (heap_alloc_new wc54 (exO v (.slice Ak v.kids.length ck)))
     have Y58 := Lib.hid (Y54.out.moves mz hRlo)
     clear mz
     generalize wc54.alloc (exO v (.slice Ak v.kids.length ck)) = wb58 at *
     refine hK.out _ _ trivial (fun hHeld => ?_)
     clear hK K
     refine wpAnyH_ready (rs := [1]) (by kernel_rfl) (by simp) ?_
     refine AllReadyH.cons rfl (fun K hK => ?_) AllReadyH.nil
     have hce := C58.out.cells.1.2.2.1
     go_simp
     clear hce
     refine hK.out _ _ trivial (fun hHeld => ?_)
     clear hK K
     obtain ⟨ks, hks, hown, hkid⟩ := C58.out.own
     have HO := Lib.hid hown
     have HKd := Lib.hid hkid
     clear hown hkid
     have HNw : Hid (∀ (j : Nat) (u : Value), (exC v (.slice Ak v.kids.length ck))[j]? = some u → wb58.cell? ((Addr.mk (wc54.heap.size) 0 none).add j) = some u) := fun j u hu => by
      rw [Addr.add_mid]
      exact range_of (cs := (exC v (.slice Ak v.kids.length ck))) Z58.out j u hu
     refine wpAnyH_ready (rs := [7]) (by kernel_rfl) (by simp) ?_
     refine AllReadyH.cons rfl (fun K hK => ?_) AllReadyH.nil
     rw [if_pos (by rfl)]
     refine wp_append_one _ (.tmp 130) (.tmp 135) 143 rfl ((w1.heap.size + 1)) 202 i0 _ 5 64 Tryz.underlying143 hi hz0 hz1 hz2 rfl (by omega) _ _ _ rfl HO.out ⟨wc54.heap.size, 0, none⟩ 1 (exC v (.slice Ak v.kids.length ck)) rfl rfl HNw.out one5 (by (try simp only [List.length_cons, List.length_nil]); omega) (by simp; unfold maxLen; omega) C58.out.lo ?_
     intro v' w' ho hg hvv
     obtain ⟨A', c', hA'⟩ := own_shape ho
     subst hA'
     have M60 := Lib.hid (C58.out.more hks HKd.out HO.out ho hg hvv Y58.out).1
     have hcL := C58.out.va.of (C58.out.more hks HKd.out HO.out ho hg hvv Y58.out).2
     have hce := (hcL.cell 2 _ rfl).1
     have hcf := (hcL.cell 2 _ rfl).2
     clear ho hg hvv HO HKd HNw hcL
     refine hK.out _ _ trivial (fun hHeld => ?_)
     clear hK K
     simp only [Act.put, List.setIfInBounds_toArray, List.set_cons_zero, List.set_cons_succ]
     refine wpAnyH_take (i := 8) (v := ?vp49_t60) rfl (by kernel_rfl) (by kernel_rfl) (by kernel_rfl) (fun _ _ _ h => h) (Or.inl ⟨by kernel_rfl, ?yp49_t60⟩) (by assumption) ?rp49_t60
     case yp49_t60 => (intro w hSw; (try dsimp only at hSw); go_simp; (try with_reducible rfl))
     try simp only [Act.put, List.getElem_toArray, List.getElem_cons_zero, List.getElem_cons_succ, List.setIfInBounds_toArray, List.set_cons_zero, List.set_cons_succ]
     refine wpAnyH_ready (rs := [9]) (by kernel_rfl) (by simp) ?_
     refine AllReadyH.cons rfl (fun K hK => ?_) AllReadyH.nil
     go_simp
     refine hK.out _ _ trivial (fun hHeld => ?_)
     clear hK K hce hcf
     refine wpAnyH_done (by kernel_rfl) ?_ _
     go_wp2
     go_meet
     exact ⟨v, A', c', M60, HV⟩
  case rest =>
   obtain ⟨x2, A10, c10, HC10, HVx2⟩ := hcut
   generalize wc = v10 at *
   rw [← HT4.out] at HC10
   clear HC9
   go_wp2_with fail
   have K := Lib.hid (rmust R S σ4 [41] ⟨#[41]⟩ v10 HC10.out.st (by kernel_rfl) (by unfold Byn; decide))
   rw [← HT5.out] at K
   (with_reducible refine K.out.mono ?_)
   clear K
   rintro x v11 ⟨rfl, h1, h2⟩
   have HC11 := Lib.hid (HC10.out.moves h1 h2)
   clear h1 h2 HC10
   go_wp2_with fail
   have K := Lib.hid (rmust R S σ5 [59] ⟨#[59]⟩ v11 HC11.out.st (by kernel_rfl) (by unfold Byn; decide))
   rw [← HT6.out] at K
   (with_reducible refine K.out.mono ?_)
   clear K
   rintro x v12 ⟨rfl, h1, h2⟩
   have HC12 := Lib.hid (HC11.out.moves h1 h2)
   clear h1 h2 HC11
   have HVl : Hid (∀ a r, m = .ok a r → a = .mk 6 [] [x1, x2] [] [] P) := fun a r h => by
    obtain ⟨x, r2, y, r4, e2, e4, e5⟩ := HVa.out a r h
    rw [e5, HVx1.out x r2 e2, HVx2.out y r4 e4]
   obtain ⟨⟨q0, q1, q2, q3, q4, q5⟩, _⟩ := HC12.out.cells
   go_wp2_with (refine wpList_storeN info43s rfl (.tmp 4) (.tmp 161) rfl rfl w.heap.size rfl [_, _, _, _, _, _] rfl rfl HC12.out.th (by simp [Value.oneCell']) ?_; intro wf g1 g2 g3 g4 g5)
   refine bodyPost_ret (ret_cell (cs := [_, _, _, _, _, _]) Tryz.results125 Tryz.underlying145 rfl info43s _ _ w.heap.size rfl g1) rfl ?_
   exact HC12.out.done (o := 6) (b := []) (f := []) (StsC.nothing _ _) (StsC.nothing _ _) m HU.out HVl.out g3 g4 g5
end
section
open Go.RowKit
set_option maxRecDepth 100000
set_option linter.unusedSimpArgs false
set_option linter.unusedVariables false
def BlkR (R : Nat) (S : Src) (d : Nat) (b : Par (List St)) : Prop := ∀ σ w, Rs w R S σ → (d = 32 → ∃ c p, σ = .bad c p) → Calls Tryz.prog 73 #[.pointer (some ⟨R, 0, none⟩), .int .i64 ((d : Int) + 1)] w (RGot R S (QB w.heap.size) w (σ.bind fun _ ts => b ts))
theorem bad_e {d : Nat} {e : Par Ex} (h33 : d = 32 → ∀ ts, ∃ c p, e ts = .bad c p) (σ : Res Unit) (h : d = 32) : ∃ c p, (σ.bind fun _ ts => e ts).unit = .bad c p := by
 cases σ with
 | bad c p => exact ⟨c, p, rfl⟩
 | ok u ts =>
  obtain ⟨c, p, h1⟩ := h33 h ts
  exact ⟨c, p, by show (e ts).unit = _; rw [h1]; rfl⟩
theorem if_no {z P : Nat} {e : Par Ex} {b : Par (List St)} {σa σ1 σ2 : Res Unit} (h1 : σ1 = (σa.bind fun _ ts => e ts).unit) (h2 : σ2 = (σ1.bind fun _ ts => b ts).unit) (h : isR z kElse σ2 = false) :
  (((σa.bind fun _ ts => e ts).bind fun x r => (b r).bind fun l q => if seesT z [kElse] q then (b q.tail).bind fun m q' => .ok (St.mk 3 [] [x] l m P) q' else .ok (.mk 3 [] [x] l [] P) q)) = (σa.bind fun _ ts => e ts).bind fun x r => (b r).bind fun l q => .ok (.mk 3 [] [x] l [] P) q := by
 cases he : (σa.bind fun _ ts => e ts) with
 | bad c p => rfl
 | ok x r =>
  show (b r).bind _ = (b r).bind _
  rw [he] at h1
  cases hb : b r with
  | bad c p => rfl
  | ok l q =>
   have h3 : σ2 = .ok () q := by rw [h2, h1]; show (b r).unit = _; rw [hb]; rfl
   rw [h3] at h
   have h4 : seesT z [kElse] q = false := h
   show (if seesT z [kElse] q then _ else _) = _
   rw [if_neg (by rw [h4]; decide)]
   rfl
theorem if_yes {z P : Nat} {e : Par Ex} {b : Par (List St)} {σa σ1 σ2 σe : Res Unit} (h1 : σ1 = (σa.bind fun _ ts => e ts).unit) (h2 : σ2 = (σ1.bind fun _ ts => b ts).unit) (h : isR z kElse σ2 = true) (h3 : σe = passR z kElse σ2) :
  ∃ x r l q, (σa.bind fun _ ts => e ts) = .ok x r ∧ (σ1.bind fun _ ts => b ts) = .ok l q ∧ σe = .ok () q.tail ∧ (((σa.bind fun _ ts => e ts).bind fun x r => (b r).bind fun l q => if seesT z [kElse] q then (b q.tail).bind fun m q' => .ok (St.mk 3 [] [x] l m P) q' else .ok (.mk 3 [] [x] l [] P) q)) = (b q.tail).bind fun m q' => .ok (.mk 3 [] [x] l m P) q' := by
 cases he : (σa.bind fun _ ts => e ts) with
 | bad c p => rw [h2, h1, he] at h; exact absurd (show false = true from h) (by decide)
 | ok x r =>
  rw [he] at h1
  have h4 : (σ1.bind fun _ ts => b ts) = b r := by rw [h1]; rfl
  cases hb : b r with
  | bad c p => rw [h2, h4, hb] at h; exact absurd (show false = true from h) (by decide)
  | ok l q =>
   have h5 : σ2 = .ok () q := by rw [h2, h4, hb]; rfl
   rw [h5] at h h3
   have h6 : seesT z [kElse] q = true := h
   refine ⟨x, r, l, q, rfl, by rw [h4, hb], ?_, ?_⟩
   ·rw [h3]
    show (if seesT z [kElse] q then _ else _) = _
    rw [if_pos h6]
   ·show (b r).bind _ = _
    rw [hb]
    show (if seesT z [kElse] q then _ else _) = _
    rw [if_pos h6]
theorem for_eq (z P : Nat) (e : Par Ex) (b : Par (List St)) (σ : Res Unit) : ((σ.bind fun _ ts => setP z e ts).bind fun x r => (wantT z kTo r).bind fun _ r' => (e r').bind fun y q => (b q).bind fun l q' => .ok (St.mk 4 x.1 [x.2, y] l [] P) q') = ((((σ.bind fun _ ts => setP z e ts).bind fun x r => (wantT z kTo r).bind fun _ q => .ok x q).bind fun x r => (e r).bind fun y q => .ok (x, y) q).bind fun x r => (b r).bind fun l q => .ok (St.mk 4 x.1.1 [x.1.2, x.2] l [] P) q) := by
 cases (σ.bind fun _ ts => setP z e ts) with
 | bad c p => rfl
 | ok x r =>
  show (wantT z kTo r).bind _ = (((wantT z kTo r).bind _).bind _).bind _
  cases wantT z kTo r with
  | bad c p => rfl
  | ok u r' =>
   show (e r').bind _ = ((e r').bind _).bind _
   cases e r' <;> rfl
set_option maxHeartbeats 1600000 in
theorem w_if0 (R : Nat) (S : Src) (hsm : S.all.length ≤ 4096) (d : Nat) (e : Par Ex) (b : Par (List St)) (he : ExprR R S (d + 1) e) (hd : d ≤ 32) (hb : BlkR R S d b) (h33 : d = 32 → ∀ ts, ∃ c p, e ts = .bad c p) (σ σa : Res Unit) (w : World) (ha : Rs w R S σ) (hn0 : isR S.z kLet σ = false) (hT : isR S.z kIf σ = true) (hσ : passR S.z kIf σ = σa) (hS : isR S.z kElse ((σa.bind fun _ ts => e ts).unit.bind fun _ ts => b ts).unit = false) (m : Res St) (hm : ∀ P, (∀ u ts, σ = .ok u ts → P = (peekT S.z ts).place) → m = (σa.bind fun _ ts => e ts).bind fun x r => (b r).bind fun l q => if seesT S.z [kElse] q then (b q.tail).bind fun m q' => .ok (.mk 3 [] [x] l m P) q' else .ok (.mk 3 [] [x] l [] P) q) :
  Calls Tryz.prog 125 #[.pointer (some ⟨R, 0, none⟩), .int .i64 d] w (RGot R S (QSt w.heap.size) w m) := by
 have HR := Lib.hid ha.lt
 have HE := Lib.hid he
 have HM0 := Lib.hid hm
 have HN0 := Lib.hid hn0
 have HT := Lib.hid hT
 have HSa := Lib.hid hσ
 have HS9 := Lib.hid hS
 have HBk := Lib.hid hb
 have H33 := Lib.hid h33
 clear hb h33
 have h0 := open_one ha stZ
 have K := Lib.hid (rplaceR R S σ _ h0.1)
 have HA := Lib.hid h0
 obtain ⟨i0, hi, hz0, hz1, hz2⟩ := info_parts info39
 have hwrap : IntKind.i64.wrap ((d : Int) + 1) = (d : Int) + 1 := IntWalk.i64_in _ (by omega)
 clear ha he hm h0 hn0 hT hσ hS
 unfold stZ at HA K
 go_enter Tryz.func125, Tryz.ntmps125
 go_wp2_with fail
 generalize hw0 : w.alloc (.cells #[.int .i64 0, .string ⟨#[]⟩, .slice none 0 0, .slice none 0 0, .slice none 0 0, .int .i64 0] 145) = w0 at *
 clear hw0
 (with_reducible refine K.out.mono ?_)
 clear K
 rintro x w1 ⟨P, rfl, hP, b1⟩
 have HM := Lib.hid (HM0.out P hP)
 have HS : Hid (SvC R S w w1.heap.size w.heap.size (w1.heap.size + 1) 0 [] [] (.slice none 0 0) (.slice none 0 0) (.slice none 0 0) P σ (w1.alloc (stB P))) := by
  have hz := HA.out.2.2.2.1
  have hsz := b1.size
  have h1 := HA.out.1.below b1 (Nat.le_refl _)
  have o1 := open_one h1 (stB P)
  have h2 : SvC R S w w1.heap.size w.heap.size (w1.alloc (stB P)).heap.size 0 [] [] (.slice none 0 0) (.slice none 0 0) (.slice none 0 0) P σ (w1.alloc (stB P)) := SvC.start o1.1 (VarAt.block (cs := [.int .i64 0, .string (strN []), .slice none 0 0, .slice none 0 0, .slice none 0 0, .int .i64 P]) (T := 145) o1.2.2.1) (((Moves.of_below HA.out.2.1 (Nat.le_refl _)).below b1 (Nat.le_refl _)).below o1.2.1 (Nat.le_refl _)) (by rw [o1.2.1.block _ (by omega), b1.block _ (by omega)]; exact HA.out.2.2.1) HR.out ⟨by omega, by simp⟩ ⟨Nat.le_refl _, by simp; omega⟩ (by omega)
  rw [o1.2.2.2.1] at h2
  exact h2
 have hRlo : R < w1.heap.size + 1 := by have := HR.out; have := HA.out.2.2.2.1; have := b1.size; omega
 have HLw : Hid (w.heap.size < w1.heap.size) := by have := HA.out.2.2.2.1; have := b1.size; show _ < _; omega
 clear HA HM0 hP b1
 go_wp2_with fail
 generalize w1.alloc (.cells #[.int .i64 0, .string ⟨#[]⟩, .slice none 0 0, .slice none 0 0, .slice none 0 0, .int .i64 (P : Int)] 145) = w2 at *
 have K := Lib.hid (rtake R S σ kLet ⟨#[108, 101, 116]⟩ w2 HS.out.st (by kernel_rfl) (by unfold Byn; decide))
 rw [HN0.out, pass_false HN0.out] at K
 (with_reducible refine K.out.mono ?_)
 clear K
 rintro x v1 ⟨rfl, h1, h2⟩
 have HC1 := Lib.hid (HS.out.moves h1 h2)
 clear h1 h2 HS
 go_wp2_with fail
 have K := Lib.hid (rtake R S σ kIf ⟨#[105, 102]⟩ v1 HC1.out.st (by kernel_rfl) (by unfold Byn; decide))
 rw [HT.out, HSa.out] at K
 (with_reducible refine K.out.mono ?_)
 clear K
 rintro x v2 ⟨rfl, h1, h2⟩
 have HC2 := Lib.hid (HC1.out.moves h1 h2)
 clear h1 h2 HC1
 obtain ⟨σ1, hσ1⟩ : ∃ σ1, σ1 = (σa.bind fun _ ts => e ts).unit := ⟨_, rfl⟩
 obtain ⟨σ2, hσ2⟩ : ∃ σ2, σ2 = (σ1.bind fun _ ts => b ts).unit := ⟨_, rfl⟩
 rw [← hσ1, ← hσ2] at HS9
 have HK1 : Hid (∀ w', Rs w' R S σ1 → Calls Tryz.prog 73 #[.pointer (some ⟨R, 0, none⟩), .int .i64 ((d : Int) + 1)] w' (RGot R S (QB w'.heap.size) w' (σ1.bind fun _ ts => b ts))) := fun w' h => HBk.out σ1 w' h fun hd => by rw [hσ1]; exact bad_e H33.out σa hd
 have HM2 : Hid (m = (σa.bind fun _ ts => e ts).bind fun x r => (b r).bind fun l q => .ok (.mk 3 [] [x] l [] P) q) := by show _ = _; rw [HM.out]; exact if_no hσ1 hσ2 HS9.out
 have HU : Hid (m.unit = σ2) := by show _ = _; rw [HM2.out, hσ2, hσ1]; exact then_unit _ _ _
 have HVa : Hid (∀ a r, m = .ok a r → ∃ x r2 l r3, (σa.bind fun _ ts => e ts) = .ok x r2 ∧ (σ1.bind fun _ ts => b ts) = .ok l r3 ∧ a = .mk 3 [] [x] l [] P) := fun a r h => by
  rw [HM2.out] at h
  obtain ⟨x, r0, y, h1, h2, h3⟩ := then_val h
  exact ⟨x, r0, y, r, h1, by rw [hσ1]; exact h2, h3⟩
 have HT1 := Lib.hid hσ1
 have HT2 := Lib.hid hσ2
 clear hσ1 hσ2 HM
 have f0 := HC2.out.cells
 have c0 := f0.1.1
 have b0 := f0.2.1
 clear f0
 have HC3 := Lib.hid (HC2.out.set0 3)
 go_wp2_with fail
 generalize v2.setCell ⟨w1.heap.size, 0, none⟩ (.int .i64 3) = v3 at *
 clear c0 b0 HC2
 go_upto_region 11 with fail
 have K0 : Hid (∀ w1, Rs w1 R S σa → Calls Tryz.prog 150 #[.pointer (some ⟨R, 0, none⟩), .int .i64 ((d : Int) + 1)] w1 (RGot R S (QE w1.heap.size) w1 (σa.bind fun _ ts => e ts))) := fun w1 h => HE.out _ w1 h
 go_cut [] (fun wx => ∃ (v : Ex) (A' : Option Addr) (c' : Nat), Hid (SvC R S w w1.heap.size w.heap.size (w1.heap.size + 1) 3 [] [v] (.slice A' 1 c') (.slice none 0 0) (.slice none 0 0) P (σa.bind fun _ ts => e ts).unit wx) ∧ Hid (∀ a r, (σa.bind fun _ ts => e ts) = .ok a r → v = a))
 case first =>
  have HD := Lib.hid (HC3.out.moves (w' := v3.drew) ⟨rfl, rfl, rfl, Nat.le_refl _, fun _ _ _ => rfl⟩ (HC3.out.st.below ((Below.refl v3.heap.size v3).drew) (Nat.le_refl _)))
  refine wp_region_held_drew (S := fun _ => True) (by kernel_rfl) trivial (fun hHeld => ?_)
  refine wpAnyH_take (i := 0) (v := ?vp61_0) rfl (by kernel_rfl) (by kernel_rfl) (by kernel_rfl) (fun _ _ _ h => h) (Or.inl ⟨by kernel_rfl, ?yp61_0⟩) (by assumption) ?rp61_0
  case yp61_0 => (intro w hSw; (try dsimp only at hSw); go_simp; (try with_reducible rfl))
  try simp only [Act.put, List.getElem_toArray, List.getElem_cons_zero, List.getElem_cons_succ, List.setIfInBounds_toArray, List.set_cons_zero, List.set_cons_succ]
  refine wpAnyH_take (i := 2) (v := ?vp61_2) rfl (by kernel_rfl) (by kernel_rfl) (by kernel_rfl) (fun _ _ _ h => h) (Or.inl ⟨by kernel_rfl, ?yp61_2⟩) (by assumption) ?rp61_2
  case yp61_2 => (intro w hSw; (try dsimp only at hSw); go_simp; (try with_reducible rfl))
  try simp only [Act.put, List.getElem_toArray, List.getElem_cons_zero, List.getElem_cons_succ, List.setIfInBounds_toArray, List.set_cons_zero, List.set_cons_succ]
  refine wpAnyH_take (i := 3) (v := ?vp61_3) rfl (by kernel_rfl) (by kernel_rfl) (by kernel_rfl) (fun _ _ _ h => h) (Or.inl ⟨by kernel_rfl, ?yp61_3⟩) (by assumption) ?rp61_3
  case yp61_3 => (intro w hSw; (try dsimp only at hSw); go_simp; (try with_reducible rfl))
  try simp only [Act.put, List.getElem_toArray, List.getElem_cons_zero, List.getElem_cons_succ, List.setIfInBounds_toArray, List.set_cons_zero, List.set_cons_succ]
  refine wpAnyH_take (i := 4) (v := ?vp61_4) rfl (by kernel_rfl) (by kernel_rfl) (by kernel_rfl) (fun _ _ _ h => h) (Or.inl ⟨by kernel_rfl, ?yp61_4⟩) (by assumption) ?rp61_4
  case yp61_4 => (intro w hSw; (try dsimp only at hSw); go_simp; (try with_reducible rfl))
  try simp only [Act.put, List.getElem_toArray, List.getElem_cons_zero, List.getElem_cons_succ, List.setIfInBounds_toArray, List.set_cons_zero, List.set_cons_succ]
  generalize v3.drew = wd at *
  refine wpAnyH_ready (rs := [1, 5]) (by kernel_rfl) (by simp) ?_
  refine AllReadyH.cons rfl (fun K hK => ?_) (AllReadyH.cons rfl (fun K hK => ?_) AllReadyH.nil)
  ·have hce := HD.out.cells.1.2.2.1
   go_simp
   clear hce
   refine hK.out _ _ trivial (fun hHeld => ?_)
   clear hK K
   refine wpAnyH_ready (rs := [5]) (by kernel_rfl) (by simp) ?_
   refine AllReadyH.cons rfl (fun K hK => ?_) AllReadyH.nil
   go_simp
   (try simp only [hwrap])
   with_reducible refine (K0.out wd HD.out.st).mono ?_
   rintro x wc63 ⟨hm, ⟨v, xv, rfl, hq, hv⟩, r2⟩
   obtain ⟨kk, rfl, hk, hk1⟩ := exV_cells hq
   obtain ⟨Ak, ck, rfl⟩ := exsC_slice hk
   have C63 := Lib.hid (HD.out.moves hm r2)
   have Y63 := Lib.hid (HD.out.apart hk)
   have HV := Lib.hid hv
   clear hm r2 hk hq hk1 hv
   refine hK.out _ _ trivial (fun hHeld => ?_)
   clear hK K
   refine wpAnyH_ready (rs := [6]) (by kernel_rfl) (by simp) ?_
   refine AllReadyH.cons rfl (fun K hK => ?_) AllReadyH.nil
   go_simp
   have mz := Moves.of_below (R := R) (below_alloc wc63 (exO v (.slice Ak v.kids.length ck))) (Nat.le_refl _)
   have C64 := Lib.hid (C63.out.moves mz (C63.out.st.below (below_alloc wc63 (exO v (.slice Ak v.kids.length ck))) (Nat.le_refl _)))
   have Z64 := Lib.hid (heap_alloc_new wc63 (exO v (.slice Ak v.kids.length ck)))
   have Y64 := Lib.hid (Y63.out.moves mz hRlo)
   clear mz
   generalize wc63.alloc (exO v (.slice Ak v.kids.length ck)) = wb64 at *
   refine hK.out _ _ trivial (fun hHeld => ?_)
   clear hK K
   obtain ⟨ks, hks, hown, hkid⟩ := C64.out.own
   have HO := Lib.hid hown
   have HKd := Lib.hid hkid
   clear hown hkid
   have HNw : Hid (∀ (j : Nat) (u : Value), (exC v (.slice Ak v.kids.length ck))[j]? = some u → wb64.cell? ((Addr.mk (wc63.heap.size) 0 none).add j) = some u) := fun j u hu => by
    rw [Addr.add_mid]
    exact range_of (cs := (exC v (.slice Ak v.kids.length ck))) Z64.out j u hu
   refine wpAnyH_ready (rs := [7]) (by kernel_rfl) (by simp) ?_
   refine AllReadyH.cons rfl (fun K hK => ?_) AllReadyH.nil
   rw [if_pos (by rfl)]
   refine wp_append_one _ (.tmp 39) (.tmp 44) 143 rfl ((w1.heap.size + 1)) 202 i0 _ 5 64 Tryz.underlying143 hi hz0 hz1 hz2 rfl (by omega) _ _ _ rfl HO.out ⟨wc63.heap.size, 0, none⟩ 1 (exC v (.slice Ak v.kids.length ck)) rfl rfl HNw.out one5 (by (try simp only [List.length_cons, List.length_nil]); omega) (by simp; unfold maxLen; omega) C64.out.lo ?_
   intro v' w' ho hg hvv
   obtain ⟨A', c', hA'⟩ := own_shape ho
   subst hA'
   have M65 := Lib.hid (C64.out.more hks HKd.out HO.out ho hg hvv Y64.out).1
   have hcL := C64.out.va.of (C64.out.more hks HKd.out HO.out ho hg hvv Y64.out).2
   have hce := (hcL.cell 2 _ rfl).1
   have hcf := (hcL.cell 2 _ rfl).2
   clear ho hg hvv HO HKd HNw hcL
   refine hK.out _ _ trivial (fun hHeld => ?_)
   clear hK K
   simp only [Act.put, List.setIfInBounds_toArray, List.set_cons_zero, List.set_cons_succ]
   refine wpAnyH_take (i := 8) (v := ?vp61_t65) rfl (by kernel_rfl) (by kernel_rfl) (by kernel_rfl) (fun _ _ _ h => h) (Or.inl ⟨by kernel_rfl, ?yp61_t65⟩) (by assumption) ?rp61_t65
   case yp61_t65 => (intro w hSw; (try dsimp only at hSw); go_simp; (try with_reducible rfl))
   try simp only [Act.put, List.getElem_toArray, List.getElem_cons_zero, List.getElem_cons_succ, List.setIfInBounds_toArray, List.set_cons_zero, List.set_cons_succ]
   refine wpAnyH_ready (rs := [9]) (by kernel_rfl) (by simp) ?_
   refine AllReadyH.cons rfl (fun K hK => ?_) AllReadyH.nil
   go_simp
   refine hK.out _ _ trivial (fun hHeld => ?_)
   clear hK K hce hcf
   refine wpAnyH_done (by kernel_rfl) ?_ _
   go_wp2
   go_meet
   exact ⟨v, A', c', M65, HV⟩
  ·go_simp
   (try simp only [hwrap])
   with_reducible refine (K0.out wd HD.out.st).mono ?_
   rintro x wc66 ⟨hm, ⟨v, xv, rfl, hq, hv⟩, r2⟩
   obtain ⟨kk, rfl, hk, hk1⟩ := exV_cells hq
   obtain ⟨Ak, ck, rfl⟩ := exsC_slice hk
   have C66 := Lib.hid (HD.out.moves hm r2)
   have Y66 := Lib.hid (HD.out.apart hk)
   have HV := Lib.hid hv
   clear hm r2 hk hq hk1 hv
   refine hK.out _ _ trivial (fun hHeld => ?_)
   clear hK K
   refine wpAnyH_ready (rs := [1, 6]) (by kernel_rfl) (by simp) ?_
   refine AllReadyH.cons rfl (fun K hK => ?_) (AllReadyH.cons rfl (fun K hK => ?_) AllReadyH.nil)
   ·have hce := C66.out.cells.1.2.2.1
    go_simp
    clear hce
    refine hK.out _ _ trivial (fun hHeld => ?_)
    clear hK K
    refine wpAnyH_ready (rs := [6]) (by kernel_rfl) (by simp) ?_
    refine AllReadyH.cons rfl (fun K hK => ?_) AllReadyH.nil
    go_simp
    have mz := Moves.of_below (R := R) (below_alloc wc66 (exO v (.slice Ak v.kids.length ck))) (Nat.le_refl _)
    have C68 := Lib.hid (C66.out.moves mz (C66.out.st.below (below_alloc wc66 (exO v (.slice Ak v.kids.length ck))) (Nat.le_refl _)))
    have Z68 := Lib.hid (heap_alloc_new wc66 (exO v (.slice Ak v.kids.length ck)))
    have Y68 := Lib.hid (Y66.out.moves mz hRlo)
    clear mz
    generalize wc66.alloc (exO v (.slice Ak v.kids.length ck)) = wb68 at *
    refine hK.out _ _ trivial (fun hHeld => ?_)
    clear hK K
    obtain ⟨ks, hks, hown, hkid⟩ := C68.out.own
    have HO := Lib.hid hown
    have HKd := Lib.hid hkid
    clear hown hkid
    have HNw : Hid (∀ (j : Nat) (u : Value), (exC v (.slice Ak v.kids.length ck))[j]? = some u → wb68.cell? ((Addr.mk (wc66.heap.size) 0 none).add j) = some u) := fun j u hu => by
     rw [Addr.add_mid]
     exact range_of (cs := (exC v (.slice Ak v.kids.length ck))) Z68.out j u hu
    refine wpAnyH_ready (rs := [7]) (by kernel_rfl) (by simp) ?_
    refine AllReadyH.cons rfl (fun K hK => ?_) AllReadyH.nil
    rw [if_pos (by rfl)]
    refine wp_append_one _ (.tmp 39) (.tmp 44) 143 rfl ((w1.heap.size + 1)) 202 i0 _ 5 64 Tryz.underlying143 hi hz0 hz1 hz2 rfl (by omega) _ _ _ rfl HO.out ⟨wc66.heap.size, 0, none⟩ 1 (exC v (.slice Ak v.kids.length ck)) rfl rfl HNw.out one5 (by (try simp only [List.length_cons, List.length_nil]); omega) (by simp; unfold maxLen; omega) C68.out.lo ?_
    intro v' w' ho hg hvv
    obtain ⟨A', c', hA'⟩ := own_shape ho
    subst hA'
    have M69 := Lib.hid (C68.out.more hks HKd.out HO.out ho hg hvv Y68.out).1
    have hcL := C68.out.va.of (C68.out.more hks HKd.out HO.out ho hg hvv Y68.out).2
    have hce := (hcL.cell 2 _ rfl).1
    have hcf := (hcL.cell 2 _ rfl).2
    clear ho hg hvv HO HKd HNw hcL
    refine hK.out _ _ trivial (fun hHeld => ?_)
    clear hK K
    simp only [Act.put, List.setIfInBounds_toArray, List.set_cons_zero, List.set_cons_succ]
    refine wpAnyH_take (i := 8) (v := ?vp61_t69) rfl (by kernel_rfl) (by kernel_rfl) (by kernel_rfl) (fun _ _ _ h => h) (Or.inl ⟨by kernel_rfl, ?yp61_t69⟩) (by assumption) ?rp61_t69
    case yp61_t69 => (intro w hSw; (try dsimp only at hSw); go_simp; (try with_reducible rfl))
    try simp only [Act.put, List.getElem_toArray, List.getElem_cons_zero, List.getElem_cons_succ, List.setIfInBounds_toArray, List.set_cons_zero, List.set_cons_succ]
    refine wpAnyH_ready (rs := [9]) (by kernel_rfl) (by simp) ?_
    refine AllReadyH.cons rfl (fun K hK => ?_) AllReadyH.nil
    go_simp
    refine hK.out _ _ trivial (fun hHeld => ?_)
    clear hK K hce hcf
    refine wpAnyH_done (by kernel_rfl) ?_ _
    go_wp2
    go_meet
    exact ⟨v, A', c', M69, HV⟩
   ·go_simp
    have mz := Moves.of_below (R := R) (below_alloc wc66 (exO v (.slice Ak v.kids.length ck))) (Nat.le_refl _)
    have C70 := Lib.hid (C66.out.moves mz (C66.out.st.below (below_alloc wc66 (exO v (.slice Ak v.kids.length ck))) (Nat.le_refl _)))
    have Z70 := Lib.hid (heap_alloc_new wc66 (exO v (.slice Ak v.kids.length ck)))
    have Y70 := Lib.hid (Y66.out.moves mz hRlo)
    clear mz
    generalize wc66.alloc (exO v (.slice Ak v.kids.length ck)) = wb70 at *
    refine hK.out _ _ trivial (fun hHeld => ?_)
    clear hK K
    refine wpAnyH_ready (rs := [1]) (by kernel_rfl) (by simp) ?_
    refine AllReadyH.cons rfl (fun K hK => ?_) AllReadyH.nil
    have hce := C70.out.cells.1.2.2.1
    go_simp
    clear hce
    refine hK.out _ _ trivial (fun hHeld => ?_)
    clear hK K
    obtain ⟨ks, hks, hown, hkid⟩ := C70.out.own
    have HO := Lib.hid hown
    have HKd := Lib.hid hkid
    clear hown hkid
    have HNw : Hid (∀ (j : Nat) (u : Value), (exC v (.slice Ak v.kids.length ck))[j]? = some u → wb70.cell? ((Addr.mk (wc66.heap.size) 0 none).add j) = some u) := fun j u hu => by
     rw [Addr.add_mid]
     exact range_of (cs := (exC v (.slice Ak v.kids.length ck))) Z70.out j u hu
    refine wpAnyH_ready (rs := [7]) (by kernel_rfl) (by simp) ?_
    refine AllReadyH.cons rfl (fun K hK => ?_) AllReadyH.nil
    rw [if_pos (by rfl)]
    refine wp_append_one _ (.tmp 39) (.tmp 44) 143 rfl ((w1.heap.size + 1)) 202 i0 _ 5 64 Tryz.underlying143 hi hz0 hz1 hz2 rfl (by omega) _ _ _ rfl HO.out ⟨wc66.heap.size, 0, none⟩ 1 (exC v (.slice Ak v.kids.length ck)) rfl rfl HNw.out one5 (by (try simp only [List.length_cons, List.length_nil]); omega) (by simp; unfold maxLen; omega) C70.out.lo ?_
    intro v' w' ho hg hvv
    obtain ⟨A', c', hA'⟩ := own_shape ho
    subst hA'
    have M72 := Lib.hid (C70.out.more hks HKd.out HO.out ho hg hvv Y70.out).1
    have hcL := C70.out.va.of (C70.out.more hks HKd.out HO.out ho hg hvv Y70.out).2
    have hce := (hcL.cell 2 _ rfl).1
    have hcf := (hcL.cell 2 _ rfl).2
    clear ho hg hvv HO HKd HNw hcL
    refine hK.out _ _ trivial (fun hHeld => ?_)
    clear hK K
    simp only [Act.put, List.setIfInBounds_toArray, List.set_cons_zero, List.set_cons_succ]
    refine wpAnyH_take (i := 8) (v := ?vp61_t72) rfl (by kernel_rfl) (by kernel_rfl) (by kernel_rfl) (fun _ _ _ h => h) (Or.inl ⟨by kernel_rfl, ?yp61_t72⟩) (by assumption) ?rp61_t72
    case yp61_t72 => (intro w hSw; (try dsimp only at hSw); go_simp; (try with_reducible rfl))
    try simp only [Act.put, List.getElem_toArray, List.getElem_cons_zero, List.getElem_cons_succ, List.setIfInBounds_toArray, List.set_cons_zero, List.set_cons_succ]
    refine wpAnyH_ready (rs := [9]) (by kernel_rfl) (by simp) ?_
    refine AllReadyH.cons rfl (fun K hK => ?_) AllReadyH.nil
    go_simp
    refine hK.out _ _ trivial (fun hHeld => ?_)
    clear hK K hce hcf
    refine wpAnyH_done (by kernel_rfl) ?_ _
    go_wp2
    go_meet
    exact ⟨v, A', c', M72, HV⟩
 case rest =>
  obtain ⟨x1, A4, c4, HC4, HVx1⟩ := hcut
  generalize wc = v4 at *
  rw [← HT1.out] at HC4
  clear HC3
  go_wp2_with fail
  have K := Lib.hid (HK1.out v4 HC4.out.st)
  (with_reducible refine K.out.mono ?_)
  clear K
  rintro x v5 ⟨m3, ⟨l1, xv, rfl, hq, hv⟩, r3⟩
  have HB5 : Hid (BlC (w1.heap.size + 1) v5 l1 xv) := StsC.more hq fun q hq => ⟨Nat.le_trans HC4.out.lo hq.1, hq.2⟩
  obtain ⟨A5, c5, rfl⟩ := stsC_slice hq
  have HC5 := Lib.hid (HC4.out.moves m3 r3)
  have HVl1 := Lib.hid hv
  clear m3 r3 hq hv HC4
  rw [← HT2.out] at HC5
  have f0 := HC5.out.cells
  have c0 := f0.1.2.2.2.1
  have b0 := f0.2.2.2.2.1
  clear f0
  have HD5 := Lib.hid (HC5.out.set3 (.slice A5 l1.length c5))
  have HE5 : Hid (BlC (w1.heap.size + 1) (v5.setCell ⟨w1.heap.size, 3, none⟩ (.slice A5 l1.length c5)) l1 (.slice A5 l1.length c5)) := (StsC.same HB5.out fun q hq => set_other q (by have := hq.1; omega)).more fun q hq => ⟨hq.1, by rw [set_size]; exact hq.2⟩
  go_wp2_with fail
  generalize v5.setCell ⟨w1.heap.size, 3, none⟩ (.slice A5 l1.length c5) = u5 at *
  clear c0 b0 HC5 HB5
  have K := Lib.hid (rtake R S σ2 kElse ⟨#[101, 108, 115, 101]⟩ u5 HD5.out.st (by kernel_rfl) (by unfold Byn; decide))
  rw [HS9.out, pass_false HS9.out] at K
  (with_reducible refine K.out.mono ?_)
  clear K
  rintro x v6 ⟨rfl, h1, h2⟩
  have HC6 := Lib.hid (HD5.out.moves h1 h2)
  have HBm6 := Lib.hid (BlC.moves HE5.out h1 hRlo)
  clear h1 h2 HD5
  have HVl : Hid (∀ a r, m = .ok a r → a = .mk 3 [] [x1] l1 [] P) := fun a r h => by
   obtain ⟨x, r2, l, r3, e1, e2, e3⟩ := HVa.out a r h
   rw [e3, HVx1.out x r2 e1, HVl1.out l r3 e2]
  obtain ⟨⟨q0, q1, q2, q3, q4, q5⟩, _⟩ := HC6.out.cells
  go_wp2_with (refine wpList_storeN info43s rfl (.tmp 4) (.tmp 161) rfl rfl w.heap.size rfl [_, _, _, _, _, _] rfl rfl HC6.out.th (by simp [Value.oneCell']) ?_; intro wf g1 g2 g3 g4 g5)
  refine bodyPost_ret (ret_cell (cs := [_, _, _, _, _, _]) Tryz.results125 Tryz.underlying145 rfl info43s _ _ w.heap.size rfl g1) rfl ?_
  exact HC6.out.done (o := 3) (b := l1) (f := []) HBm6.out (StsC.nothing _ _) m HU.out HVl.out g3 g4 g5
set_option maxHeartbeats 1600000 in
theorem w_if1 (R : Nat) (S : Src) (hsm : S.all.length ≤ 4096) (d : Nat) (e : Par Ex) (b : Par (List St)) (he : ExprR R S (d + 1) e) (hd : d ≤ 32) (hb : BlkR R S d b) (h33 : d = 32 → ∀ ts, ∃ c p, e ts = .bad c p) (σ σa : Res Unit) (w : World) (ha : Rs w R S σ) (hn0 : isR S.z kLet σ = false) (hT : isR S.z kIf σ = true) (hσ : passR S.z kIf σ = σa) (hS : isR S.z kElse ((σa.bind fun _ ts => e ts).unit.bind fun _ ts => b ts).unit = true) (m : Res St) (hm : ∀ P, (∀ u ts, σ = .ok u ts → P = (peekT S.z ts).place) → m = (σa.bind fun _ ts => e ts).bind fun x r => (b r).bind fun l q => if seesT S.z [kElse] q then (b q.tail).bind fun m q' => .ok (.mk 3 [] [x] l m P) q' else .ok (.mk 3 [] [x] l [] P) q) :
  Calls Tryz.prog 125 #[.pointer (some ⟨R, 0, none⟩), .int .i64 d] w (RGot R S (QSt w.heap.size) w m) := by
 have HR := Lib.hid ha.lt
 have HE := Lib.hid he
 have HM0 := Lib.hid hm
 have HN0 := Lib.hid hn0
 have HT := Lib.hid hT
 have HSa := Lib.hid hσ
 have HS9 := Lib.hid hS
 have HBk := Lib.hid hb
 have H33 := Lib.hid h33
 clear hb h33
 have h0 := open_one ha stZ
 have K := Lib.hid (rplaceR R S σ _ h0.1)
 have HA := Lib.hid h0
 obtain ⟨i0, hi, hz0, hz1, hz2⟩ := info_parts info39
 have hwrap : IntKind.i64.wrap ((d : Int) + 1) = (d : Int) + 1 := IntWalk.i64_in _ (by omega)
 clear ha he hm h0 hn0 hT hσ hS
 unfold stZ at HA K
 go_enter Tryz.func125, Tryz.ntmps125
 go_wp2_with fail
 generalize hw0 : w.alloc (.cells #[.int .i64 0, .string ⟨#[]⟩, .slice none 0 0, .slice none 0 0, .slice none 0 0, .int .i64 0] 145) = w0 at *
 clear hw0
 (with_reducible refine K.out.mono ?_)
 clear K
 rintro x w1 ⟨P, rfl, hP, b1⟩
 have HM := Lib.hid (HM0.out P hP)
 have HS : Hid (SvC R S w w1.heap.size w.heap.size (w1.heap.size + 1) 0 [] [] (.slice none 0 0) (.slice none 0 0) (.slice none 0 0) P σ (w1.alloc (stB P))) := by
  have hz := HA.out.2.2.2.1
  have hsz := b1.size
  have h1 := HA.out.1.below b1 (Nat.le_refl _)
  have o1 := open_one h1 (stB P)
  have h2 : SvC R S w w1.heap.size w.heap.size (w1.alloc (stB P)).heap.size 0 [] [] (.slice none 0 0) (.slice none 0 0) (.slice none 0 0) P σ (w1.alloc (stB P)) := SvC.start o1.1 (VarAt.block (cs := [.int .i64 0, .string (strN []), .slice none 0 0, .slice none 0 0, .slice none 0 0, .int .i64 P]) (T := 145) o1.2.2.1) (((Moves.of_below HA.out.2.1 (Nat.le_refl _)).below b1 (Nat.le_refl _)).below o1.2.1 (Nat.le_refl _)) (by rw [o1.2.1.block _ (by omega), b1.block _ (by omega)]; exact HA.out.2.2.1) HR.out ⟨by omega, by simp⟩ ⟨Nat.le_refl _, by simp; omega⟩ (by omega)
  rw [o1.2.2.2.1] at h2
  exact h2
 have hRlo : R < w1.heap.size + 1 := by have := HR.out; have := HA.out.2.2.2.1; have := b1.size; omega
 have HLw : Hid (w.heap.size < w1.heap.size) := by have := HA.out.2.2.2.1; have := b1.size; show _ < _; omega
 clear HA HM0 hP b1
 go_wp2_with fail
 generalize w1.alloc (.cells #[.int .i64 0, .string ⟨#[]⟩, .slice none 0 0, .slice none 0 0, .slice none 0 0, .int .i64 (P : Int)] 145) = w2 at *
 have K := Lib.hid (rtake R S σ kLet ⟨#[108, 101, 116]⟩ w2 HS.out.st (by kernel_rfl) (by unfold Byn; decide))
 rw [HN0.out, pass_false HN0.out] at K
 (with_reducible refine K.out.mono ?_)
 clear K
 rintro x v1 ⟨rfl, h1, h2⟩
 have HC1 := Lib.hid (HS.out.moves h1 h2)
 clear h1 h2 HS
 go_wp2_with fail
 have K := Lib.hid (rtake R S σ kIf ⟨#[105, 102]⟩ v1 HC1.out.st (by kernel_rfl) (by unfold Byn; decide))
 rw [HT.out, HSa.out] at K
 (with_reducible refine K.out.mono ?_)
 clear K
 rintro x v2 ⟨rfl, h1, h2⟩
 have HC2 := Lib.hid (HC1.out.moves h1 h2)
 clear h1 h2 HC1
 obtain ⟨σ1, hσ1⟩ : ∃ σ1, σ1 = (σa.bind fun _ ts => e ts).unit := ⟨_, rfl⟩
 obtain ⟨σ2, hσ2⟩ : ∃ σ2, σ2 = (σ1.bind fun _ ts => b ts).unit := ⟨_, rfl⟩
 rw [← hσ1, ← hσ2] at HS9
 have HK1 : Hid (∀ w', Rs w' R S σ1 → Calls Tryz.prog 73 #[.pointer (some ⟨R, 0, none⟩), .int .i64 ((d : Int) + 1)] w' (RGot R S (QB w'.heap.size) w' (σ1.bind fun _ ts => b ts))) := fun w' h => HBk.out σ1 w' h fun hd => by rw [hσ1]; exact bad_e H33.out σa hd
 obtain ⟨σe, hσe⟩ : ∃ σe, σe = passR S.z kElse σ2 := ⟨_, rfl⟩
 obtain ⟨σ4, hσ4⟩ : ∃ σ4, σ4 = (σe.bind fun _ ts => b ts).unit := ⟨_, rfl⟩
 have HK2 : Hid (∀ w', Rs w' R S σe → Calls Tryz.prog 73 #[.pointer (some ⟨R, 0, none⟩), .int .i64 ((d : Int) + 1)] w' (RGot R S (QB w'.heap.size) w' (σe.bind fun _ ts => b ts))) := fun w' h => HBk.out σe w' h fun hd => by
  obtain ⟨c, p, h1⟩ := bad_e H33.out σa hd
  have h2 := HS9.out
  rw [hσ2, hσ1, h1] at h2
  exact absurd (show false = true from h2) (by decide)
 have HU : Hid (m.unit = σ4) := by
  show _ = _
  obtain ⟨x, r, l, q, h1, h2, h3, h4⟩ := if_yes (P := P) hσ1 hσ2 HS9.out hσe
  rw [HM.out, h4, hσ4, h3]
  show _ = (b q.tail).unit
  cases b q.tail <;> rfl
 have HVa : Hid (∀ a r, m = .ok a r → ∃ x r2 l r3 l2, (σa.bind fun _ ts => e ts) = .ok x r2 ∧ (σ1.bind fun _ ts => b ts) = .ok l r3 ∧ (σe.bind fun _ ts => b ts) = .ok l2 r ∧ a = .mk 3 [] [x] l l2 P) := fun a r h => by
  obtain ⟨x, r0, l, q, h1, h2, h3, h4⟩ := if_yes (P := P) hσ1 hσ2 HS9.out hσe
  rw [HM.out, h4] at h
  obtain ⟨l2, r5, h5, h6⟩ := bind_val h
  injection h6 with h6 h7
  subst h7
  exact ⟨x, r0, l, q, l2, h1, h2, by rw [h3]; exact h5, h6.symm⟩
 have HT1 := Lib.hid hσ1
 have HT2 := Lib.hid hσ2
 have HTe : Hid (passR S.z kElse σ2 = σe) := hσe.symm
 have HT4 := Lib.hid hσ4
 clear hσ1 hσ2 hσe hσ4 HM
 have f0 := HC2.out.cells
 have c0 := f0.1.1
 have b0 := f0.2.1
 clear f0
 have HC3 := Lib.hid (HC2.out.set0 3)
 go_wp2_with fail
 generalize v2.setCell ⟨w1.heap.size, 0, none⟩ (.int .i64 3) = v3 at *
 clear c0 b0 HC2
 go_upto_region 11 with fail
 have K0 : Hid (∀ w1, Rs w1 R S σa → Calls Tryz.prog 150 #[.pointer (some ⟨R, 0, none⟩), .int .i64 ((d : Int) + 1)] w1 (RGot R S (QE w1.heap.size) w1 (σa.bind fun _ ts => e ts))) := fun w1 h => HE.out _ w1 h
 go_cut [] (fun wx => ∃ (v : Ex) (A' : Option Addr) (c' : Nat), Hid (SvC R S w w1.heap.size w.heap.size (w1.heap.size + 1) 3 [] [v] (.slice A' 1 c') (.slice none 0 0) (.slice none 0 0) P (σa.bind fun _ ts => e ts).unit wx) ∧ Hid (∀ a r, (σa.bind fun _ ts => e ts) = .ok a r → v = a))
 case first =>
  have HD := Lib.hid (HC3.out.moves (w' := v3.drew) ⟨rfl, rfl, rfl, Nat.le_refl _, fun _ _ _ => rfl⟩ (HC3.out.st.below ((Below.refl v3.heap.size v3).drew) (Nat.le_refl _)))
  refine wp_region_held_drew (S := fun _ => True) (by kernel_rfl) trivial (fun hHeld => ?_)
  refine wpAnyH_take (i := 0) (v := ?vp73_0) rfl (by kernel_rfl) (by kernel_rfl) (by kernel_rfl) (fun _ _ _ h => h) (Or.inl ⟨by kernel_rfl, ?yp73_0⟩) (by assumption) ?rp73_0
  case yp73_0 => (intro w hSw; (try dsimp only at hSw); go_simp; (try with_reducible rfl))
  try simp only [Act.put, List.getElem_toArray, List.getElem_cons_zero, List.getElem_cons_succ, List.setIfInBounds_toArray, List.set_cons_zero, List.set_cons_succ]
  refine wpAnyH_take (i := 2) (v := ?vp73_2) rfl (by kernel_rfl) (by kernel_rfl) (by kernel_rfl) (fun _ _ _ h => h) (Or.inl ⟨by kernel_rfl, ?yp73_2⟩) (by assumption) ?rp73_2
  case yp73_2 => (intro w hSw; (try dsimp only at hSw); go_simp; (try with_reducible rfl))
  try simp only [Act.put, List.getElem_toArray, List.getElem_cons_zero, List.getElem_cons_succ, List.setIfInBounds_toArray, List.set_cons_zero, List.set_cons_succ]
  refine wpAnyH_take (i := 3) (v := ?vp73_3) rfl (by kernel_rfl) (by kernel_rfl) (by kernel_rfl) (fun _ _ _ h => h) (Or.inl ⟨by kernel_rfl, ?yp73_3⟩) (by assumption) ?rp73_3
  case yp73_3 => (intro w hSw; (try dsimp only at hSw); go_simp; (try with_reducible rfl))
  try simp only [Act.put, List.getElem_toArray, List.getElem_cons_zero, List.getElem_cons_succ, List.setIfInBounds_toArray, List.set_cons_zero, List.set_cons_succ]
  refine wpAnyH_take (i := 4) (v := ?vp73_4) rfl (by kernel_rfl) (by kernel_rfl) (by kernel_rfl) (fun _ _ _ h => h) (Or.inl ⟨by kernel_rfl, ?yp73_4⟩) (by assumption) ?rp73_4
  case yp73_4 => (intro w hSw; (try dsimp only at hSw); go_simp; (try with_reducible rfl))
  try simp only [Act.put, List.getElem_toArray, List.getElem_cons_zero, List.getElem_cons_succ, List.setIfInBounds_toArray, List.set_cons_zero, List.set_cons_succ]
  generalize v3.drew = wd at *
  refine wpAnyH_ready (rs := [1, 5]) (by kernel_rfl) (by simp) ?_
  refine AllReadyH.cons rfl (fun K hK => ?_) (AllReadyH.cons rfl (fun K hK => ?_) AllReadyH.nil)
  ·have hce := HD.out.cells.1.2.2.1
   go_simp
   clear hce
   refine hK.out _ _ trivial (fun hHeld => ?_)
   clear hK K
   refine wpAnyH_ready (rs := [5]) (by kernel_rfl) (by simp) ?_
   refine AllReadyH.cons rfl (fun K hK => ?_) AllReadyH.nil
   go_simp
   (try simp only [hwrap])
   with_reducible refine (K0.out wd HD.out.st).mono ?_
   rintro x wc75 ⟨hm, ⟨v, xv, rfl, hq, hv⟩, r2⟩
   obtain ⟨kk, rfl, hk, hk1⟩ := exV_cells hq
   obtain ⟨Ak, ck, rfl⟩ := exsC_slice hk
   have C75 := Lib.hid (HD.out.moves hm r2)
   have Y75 := Lib.hid (HD.out.apart hk)
   have HV := Lib.hid hv
   clear hm r2 hk hq hk1 hv
   refine hK.out _ _ trivial (fun hHeld => ?_)
   clear hK K
   refine wpAnyH_ready (rs := [6]) (by kernel_rfl) (by simp) ?_
   refine AllReadyH.cons rfl (fun K hK => ?_) AllReadyH.nil
   go_simp
   have mz := Moves.of_below (R := R) (below_alloc wc75 (exO v (.slice Ak v.kids.length ck))) (Nat.le_refl _)
   have C76 := Lib.hid (C75.out.moves mz (C75.out.st.below (below_alloc wc75 (exO v (.slice Ak v.kids.length ck))) (Nat.le_refl _)))
   have Z76 := Lib.hid (heap_alloc_new wc75 (exO v (.slice Ak v.kids.length ck)))
   have Y76 := Lib.hid (Y75.out.moves mz hRlo)
   clear mz
   generalize wc75.alloc (exO v (.slice Ak v.kids.length ck)) = wb76 at *
   refine hK.out _ _ trivial (fun hHeld => ?_)
   clear hK K
   obtain ⟨ks, hks, hown, hkid⟩ := C76.out.own
   have HO := Lib.hid hown
   have HKd := Lib.hid hkid
   clear hown hkid
   have HNw : Hid (∀ (j : Nat) (u : Value), (exC v (.slice Ak v.kids.length ck))[j]? = some u → wb76.cell? ((Addr.mk (wc75.heap.size) 0 none).add j) = some u) := fun j u hu => by
    rw [Addr.add_mid]
    exact range_of (cs := (exC v (.slice Ak v.kids.length ck))) Z76.out j u hu
   refine wpAnyH_ready (rs := [7]) (by kernel_rfl) (by simp) ?_
   refine AllReadyH.cons rfl (fun K hK => ?_) AllReadyH.nil
   rw [if_pos (by rfl)]
   refine wp_append_one _ (.tmp 39) (.tmp 44) 143 rfl ((w1.heap.size + 1)) 202 i0 _ 5 64 Tryz.underlying143 hi hz0 hz1 hz2 rfl (by omega) _ _ _ rfl HO.out ⟨wc75.heap.size, 0, none⟩ 1 (exC v (.slice Ak v.kids.length ck)) rfl rfl HNw.out one5 (by (try simp only [List.length_cons, List.length_nil]); omega) (by simp; unfold maxLen; omega) C76.out.lo ?_
   intro v' w' ho hg hvv
   obtain ⟨A', c', hA'⟩ := own_shape ho
   subst hA'
   have M77 := Lib.hid (C76.out.more hks HKd.out HO.out ho hg hvv Y76.out).1
   have hcL := C76.out.va.of (C76.out.more hks HKd.out HO.out ho hg hvv Y76.out).2
   have hce := (hcL.cell 2 _ rfl).1
   have hcf := (hcL.cell 2 _ rfl).2
   clear ho hg hvv HO HKd HNw hcL
   refine hK.out _ _ trivial (fun hHeld => ?_)
   clear hK K
   simp only [Act.put, List.setIfInBounds_toArray, List.set_cons_zero, List.set_cons_succ]
   refine wpAnyH_take (i := 8) (v := ?vp73_t77) rfl (by kernel_rfl) (by kernel_rfl) (by kernel_rfl) (fun _ _ _ h => h) (Or.inl ⟨by kernel_rfl, ?yp73_t77⟩) (by assumption) ?rp73_t77
   case yp73_t77 => (intro w hSw; (try dsimp only at hSw); go_simp; (try with_reducible rfl))
   try simp only [Act.put, List.getElem_toArray, List.getElem_cons_zero, List.getElem_cons_succ, List.setIfInBounds_toArray, List.set_cons_zero, List.set_cons_succ]
   refine wpAnyH_ready (rs := [9]) (by kernel_rfl) (by simp) ?_
   refine AllReadyH.cons rfl (fun K hK => ?_) AllReadyH.nil
   go_simp
   refine hK.out _ _ trivial (fun hHeld => ?_)
   clear hK K hce hcf
   refine wpAnyH_done (by kernel_rfl) ?_ _
   go_wp2
   go_meet
   exact ⟨v, A', c', M77, HV⟩
  ·go_simp
   (try simp only [hwrap])
   with_reducible refine (K0.out wd HD.out.st).mono ?_
   rintro x wc78 ⟨hm, ⟨v, xv, rfl, hq, hv⟩, r2⟩
   obtain ⟨kk, rfl, hk, hk1⟩ := exV_cells hq
   obtain ⟨Ak, ck, rfl⟩ := exsC_slice hk
   have C78 := Lib.hid (HD.out.moves hm r2)
   have Y78 := Lib.hid (HD.out.apart hk)
   have HV := Lib.hid hv
   clear hm r2 hk hq hk1 hv
   refine hK.out _ _ trivial (fun hHeld => ?_)
   clear hK K
   refine wpAnyH_ready (rs := [1, 6]) (by kernel_rfl) (by simp) ?_
   refine AllReadyH.cons rfl (fun K hK => ?_) (AllReadyH.cons rfl (fun K hK => ?_) AllReadyH.nil)
   ·have hce := C78.out.cells.1.2.2.1
    go_simp
    clear hce
    refine hK.out _ _ trivial (fun hHeld => ?_)
    clear hK K
    refine wpAnyH_ready (rs := [6]) (by kernel_rfl) (by simp) ?_
    refine AllReadyH.cons rfl (fun K hK => ?_) AllReadyH.nil
    go_simp
    have mz := Moves.of_below (R := R) (below_alloc wc78 (exO v (.slice Ak v.kids.length ck))) (Nat.le_refl _)
    have C80 := Lib.hid (C78.out.moves mz (C78.out.st.below (below_alloc wc78 (exO v (.slice Ak v.kids.length ck))) (Nat.le_refl _)))
    have Z80 := Lib.hid (heap_alloc_new wc78 (exO v (.slice Ak v.kids.length ck)))
    have Y80 := Lib.hid (Y78.out.moves mz hRlo)
    clear mz
    generalize wc78.alloc (exO v (.slice Ak v.kids.length ck)) = wb80 at *
    refine hK.out _ _ trivial (fun hHeld => ?_)
    clear hK K
    obtain ⟨ks, hks, hown, hkid⟩ := C80.out.own
    have HO := Lib.hid hown
    have HKd := Lib.hid hkid
    clear hown hkid
    have HNw : Hid (∀ (j : Nat) (u : Value), (exC v (.slice Ak v.kids.length ck))[j]? = some u → wb80.cell? ((Addr.mk (wc78.heap.size) 0 none).add j) = some u) := fun j u hu => by
     rw [Addr.add_mid]
     exact range_of (cs := (exC v (.slice Ak v.kids.length ck))) Z80.out j u hu
    refine wpAnyH_ready (rs := [7]) (by kernel_rfl) (by simp) ?_
    refine AllReadyH.cons rfl (fun K hK => ?_) AllReadyH.nil
    rw [if_pos (by rfl)]
    refine wp_append_one _ (.tmp 39) (.tmp 44) 143 rfl ((w1.heap.size + 1)) 202 i0 _ 5 64 Tryz.underlying143 hi hz0 hz1 hz2 rfl (by omega) _ _ _ rfl HO.out ⟨wc78.heap.size, 0, none⟩ 1 (exC v (.slice Ak v.kids.length ck)) rfl rfl HNw.out one5 (by (try simp only [List.length_cons, List.length_nil]); omega) (by simp; unfold maxLen; omega) C80.out.lo ?_
    intro v' w' ho hg hvv
    obtain ⟨A', c', hA'⟩ := own_shape ho
    subst hA'
    have M81 := Lib.hid (C80.out.more hks HKd.out HO.out ho hg hvv Y80.out).1
    have hcL := C80.out.va.of (C80.out.more hks HKd.out HO.out ho hg hvv Y80.out).2
    have hce := (hcL.cell 2 _ rfl).1
    have hcf := (hcL.cell 2 _ rfl).2
    clear ho hg hvv HO HKd HNw hcL
    refine hK.out _ _ trivial (fun hHeld => ?_)
    clear hK K
    simp only [Act.put, List.setIfInBounds_toArray, List.set_cons_zero, List.set_cons_succ]
    refine wpAnyH_take (i := 8) (v := ?vp73_t81) rfl (by kernel_rfl) (by kernel_rfl) (by kernel_rfl) (fun _ _ _ h => h) (Or.inl ⟨by kernel_rfl, ?yp73_t81⟩) (by assumption) ?rp73_t81
    case yp73_t81 => (intro w hSw; (try dsimp only at hSw); go_simp; (try with_reducible rfl))
    try simp only [Act.put, List.getElem_toArray, List.getElem_cons_zero, List.getElem_cons_succ, List.setIfInBounds_toArray, List.set_cons_zero, List.set_cons_succ]
    refine wpAnyH_ready (rs := [9]) (by kernel_rfl) (by simp) ?_
    refine AllReadyH.cons rfl (fun K hK => ?_) AllReadyH.nil
    go_simp
    refine hK.out _ _ trivial (fun hHeld => ?_)
    clear hK K hce hcf
    refine wpAnyH_done (by kernel_rfl) ?_ _
    go_wp2
    go_meet
    exact ⟨v, A', c', M81, HV⟩
   ·go_simp
    have mz := Moves.of_below (R := R) (below_alloc wc78 (exO v (.slice Ak v.kids.length ck))) (Nat.le_refl _)
    have C82 := Lib.hid (C78.out.moves mz (C78.out.st.below (below_alloc wc78 (exO v (.slice Ak v.kids.length ck))) (Nat.le_refl _)))
    have Z82 := Lib.hid (heap_alloc_new wc78 (exO v (.slice Ak v.kids.length ck)))
    have Y82 := Lib.hid (Y78.out.moves mz hRlo)
    clear mz
    generalize wc78.alloc (exO v (.slice Ak v.kids.length ck)) = wb82 at *
    refine hK.out _ _ trivial (fun hHeld => ?_)
    clear hK K
    refine wpAnyH_ready (rs := [1]) (by kernel_rfl) (by simp) ?_
    refine AllReadyH.cons rfl (fun K hK => ?_) AllReadyH.nil
    have hce := C82.out.cells.1.2.2.1
    go_simp
    clear hce
    refine hK.out _ _ trivial (fun hHeld => ?_)
    clear hK K
    obtain ⟨ks, hks, hown, hkid⟩ := C82.out.own
    have HO := Lib.hid hown
    have HKd := Lib.hid hkid
    clear hown hkid
    have HNw : Hid (∀ (j : Nat) (u : Value), (exC v (.slice Ak v.kids.length ck))[j]? = some u → wb82.cell? ((Addr.mk (wc78.heap.size) 0 none).add j) = some u) := fun j u hu => by
     rw [Addr.add_mid]
     exact range_of (cs := (exC v (.slice Ak v.kids.length ck))) Z82.out j u hu
    refine wpAnyH_ready (rs := [7]) (by kernel_rfl) (by simp) ?_
    refine AllReadyH.cons rfl (fun K hK => ?_) AllReadyH.nil
    rw [if_pos (by rfl)]
    refine wp_append_one _ (.tmp 39) (.tmp 44) 143 rfl ((w1.heap.size + 1)) 202 i0 _ 5 64 Tryz.underlying143 hi hz0 hz1 hz2 rfl (by omega) _ _ _ rfl HO.out ⟨wc78.heap.size, 0, none⟩ 1 (exC v (.slice Ak v.kids.length ck)) rfl rfl HNw.out one5 (by (try simp only [List.length_cons, List.length_nil]); omega) (by simp; unfold maxLen; omega) C82.out.lo ?_
    intro v' w' ho hg hvv
    obtain ⟨A', c', hA'⟩ := own_shape ho
    subst hA'
    have M84 := Lib.hid (C82.out.more hks HKd.out HO.out ho hg hvv Y82.out).1
    have hcL := C82.out.va.of (C82.out.more hks HKd.out HO.out ho hg hvv Y82.out).2
    have hce := (hcL.cell 2 _ rfl).1
    have hcf := (hcL.cell 2 _ rfl).2
    clear ho hg hvv HO HKd HNw hcL
    refine hK.out _ _ trivial (fun hHeld => ?_)
    clear hK K
    simp only [Act.put, List.setIfInBounds_toArray, List.set_cons_zero, List.set_cons_succ]
    refine wpAnyH_take (i := 8) (v := ?vp73_t84) rfl (by kernel_rfl) (by kernel_rfl) (by kernel_rfl) (fun _ _ _ h => h) (Or.inl ⟨by kernel_rfl, ?yp73_t84⟩) (by assumption) ?rp73_t84
    case yp73_t84 => (intro w hSw; (try dsimp only at hSw); go_simp; (try with_reducible rfl))
    try simp only [Act.put, List.getElem_toArray, List.getElem_cons_zero, List.getElem_cons_succ, List.setIfInBounds_toArray, List.set_cons_zero, List.set_cons_succ]
    refine wpAnyH_ready (rs := [9]) (by kernel_rfl) (by simp) ?_
    refine AllReadyH.cons rfl (fun K hK => ?_) AllReadyH.nil
    go_simp
    refine hK.out _ _ trivial (fun hHeld => ?_)
    clear hK K hce hcf
    refine wpAnyH_done (by kernel_rfl) ?_ _
    go_wp2
    go_meet
    exact ⟨v, A', c', M84, HV⟩
 case rest =>
  obtain ⟨x1, A4, c4, HC4, HVx1⟩ := hcut
  generalize wc = v4 at *
  rw [← HT1.out] at HC4
  clear HC3
  go_wp2_with fail
  have K := Lib.hid (HK1.out v4 HC4.out.st)
  (with_reducible refine K.out.mono ?_)
  clear K
  rintro x v5 ⟨m3, ⟨l1, xv, rfl, hq, hv⟩, r3⟩
  have HB5 : Hid (BlC (w1.heap.size + 1) v5 l1 xv) := StsC.more hq fun q hq => ⟨Nat.le_trans HC4.out.lo hq.1, hq.2⟩
  obtain ⟨A5, c5, rfl⟩ := stsC_slice hq
  have HC5 := Lib.hid (HC4.out.moves m3 r3)
  have HVl1 := Lib.hid hv
  clear m3 r3 hq hv HC4
  rw [← HT2.out] at HC5
  have f0 := HC5.out.cells
  have c0 := f0.1.2.2.2.1
  have b0 := f0.2.2.2.2.1
  clear f0
  have HD5 := Lib.hid (HC5.out.set3 (.slice A5 l1.length c5))
  have HE5 : Hid (BlC (w1.heap.size + 1) (v5.setCell ⟨w1.heap.size, 3, none⟩ (.slice A5 l1.length c5)) l1 (.slice A5 l1.length c5)) := (StsC.same HB5.out fun q hq => set_other q (by have := hq.1; omega)).more fun q hq => ⟨hq.1, by rw [set_size]; exact hq.2⟩
  go_wp2_with fail
  generalize v5.setCell ⟨w1.heap.size, 3, none⟩ (.slice A5 l1.length c5) = u5 at *
  clear c0 b0 HC5 HB5
  have K := Lib.hid (rtake R S σ2 kElse ⟨#[101, 108, 115, 101]⟩ u5 HD5.out.st (by kernel_rfl) (by unfold Byn; decide))
  rw [HS9.out, HTe.out] at K
  (with_reducible refine K.out.mono ?_)
  clear K
  rintro x v6 ⟨rfl, h1, h2⟩
  have HC6 := Lib.hid (HD5.out.moves h1 h2)
  have HBm6 := Lib.hid (BlC.moves HE5.out h1 hRlo)
  clear h1 h2 HD5
  go_wp2_with fail
  have K := Lib.hid (HK2.out v6 HC6.out.st)
  (with_reducible refine K.out.mono ?_)
  clear K
  rintro x v7 ⟨m3, ⟨l2, xv, rfl, hq, hv⟩, r3⟩
  have HB7 : Hid (BlC (w1.heap.size + 1) v7 l2 xv) := StsC.more hq fun q hq => ⟨Nat.le_trans HC6.out.lo hq.1, hq.2⟩
  obtain ⟨A7, c7, rfl⟩ := stsC_slice hq
  have HC7 := Lib.hid (HC6.out.moves m3 r3)
  have HVl2 := Lib.hid hv
  have HBo := Lib.hid (BlC.moves HBm6.out m3 hRlo)
  clear m3 r3 hq hv HC6
  rw [← HT4.out] at HC7
  have f0 := HC7.out.cells
  have c0 := f0.1.2.2.2.2.1
  have b0 := f0.2.2.2.2.2
  clear f0
  have HD7 := Lib.hid (HC7.out.set4 (.slice A7 l2.length c7))
  have HE7 : Hid (BlC (w1.heap.size + 1) (v7.setCell ⟨w1.heap.size, 4, none⟩ (.slice A7 l2.length c7)) l2 (.slice A7 l2.length c7)) := (StsC.same HB7.out fun q hq => set_other q (by have := hq.1; omega)).more fun q hq => ⟨hq.1, by rw [set_size]; exact hq.2⟩
  have HBp : Hid (BlC (w1.heap.size + 1) (v7.setCell ⟨w1.heap.size, 4, none⟩ (.slice A7 l2.length c7)) l1 (.slice A5 l1.length c5)) := (StsC.same HBo.out fun q hq => set_other q (by have := hq.1; omega)).more fun q hq => ⟨hq.1, by rw [set_size]; exact hq.2⟩
  clear c0 b0
  obtain ⟨⟨q0, q1, q2, q3, q4, q5⟩, ⟨p0, p1, p2, p3, p4⟩⟩ := HC7.out.cells
  clear HC7 HB7
  have HVl : Hid (∀ a r, m = .ok a r → a = .mk 3 [] [x1] l1 l2 P) := fun a r h => by
   obtain ⟨x, r2, l, r3, l2, e1, e2, e3, e4⟩ := HVa.out a r h
   rw [e4, HVx1.out x r2 e1, HVl1.out l r3 e2, HVl2.out l2 r e3]
  go_wp2_with (refine wpList_storeN info43s rfl (.tmp 4) (.tmp 161) rfl rfl w.heap.size rfl [_, _, _, _, _, _] rfl rfl HD7.out.th (by simp [Value.oneCell']) ?_; intro wf g1 g2 g3 g4 g5)
  refine bodyPost_ret (ret_cell (cs := [_, _, _, _, _, _]) Tryz.results125 Tryz.underlying145 rfl info43s _ _ w.heap.size rfl g1) rfl ?_
  exact HD7.out.done (o := 3) (b := l1) (f := l2) HBp.out HE7.out m HU.out HVl.out g3 g4 g5
end
end Go.Proofs.YtcilgkdnjgmogaaGreatDoor
