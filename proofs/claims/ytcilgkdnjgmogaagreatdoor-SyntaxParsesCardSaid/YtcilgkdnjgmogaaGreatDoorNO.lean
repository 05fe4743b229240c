/- The document's own reading of a program. -/
import Derived.Test.YtcilgkdnjgmogaaGreatDoorNL
import Derived.Test.YtcilgkdnjgmogaaGreatDoorMF
namespace Go.Proofs.YtcilgkdnjgmogaaGreatDoor
section
open Go.RowKit
set_option maxRecDepth 100000
set_option linter.unusedSimpArgs false
set_option linter.unusedVariables false
abbrev StmtR (R : Nat) (S : Src) (d : Nat) (p : Par St) : Prop := ∀ σ w, Rs w R S σ → Calls Tryz.prog 125 #[.pointer (some ⟨R, 0, none⟩), .int .i64 d] w (RGot R S (QSt w.heap.size) w (σ.bind fun _ ts => p ts))
abbrev BlockR (R : Nat) (S : Src) (d : Nat) (b : Par (List St)) : Prop := ∀ σ w, Rs w R S σ → Calls Tryz.prog 73 #[.pointer (some ⟨R, 0, none⟩), .int .i64 d] w (RGot R S (QB w.heap.size) w (σ.bind fun _ ts => b ts))
def BlR (R : Nat) (S : Src) (w : World) (p : Par St) (m : Res (List St)) (l : List St) (V : Value) (σ : Res Unit) (f : Nat) (wr : World) : Prop :=
 Rs wr R S σ ∧ OwnS w.heap.size wr l V ∧ Moves R w wr ∧ (∀ u ts, σ = .ok u ts → ts.length ≤ f) ∧ (∀ u ts, σ = .ok u ts → l.length + ts.length ≤ 4096) ∧ m = σ.bind fun _ ts => moreS S.z p f l ts
theorem Rs.few {w : World} {R : Nat} {S : Src} {u : Unit} {ts : List Tok} (h : Rs w R S (.ok u ts)) (hsm : S.all.length ≤ 4096) : ts.length ≤ 4096 := by
 obtain ⟨i, rfl, _⟩ := h
 simp
 omega
theorem measX (R : Nat) (S : Src) (w : World) (u : Unit) (ts : List Tok) (h : Rs w R S (.ok u ts)) : S.all.length - nextOf R w = ts.length := by
 obtain ⟨i, rfl, h⟩ := h
 unfold nextOf
 rw [h.cells.2.1]
 simp
def measB (R : Nat) (S : Src) (w : World) : Nat := match w.cell? ⟨R, 2, none⟩ with | some (.int _ 0) => 2 * (S.all.length - nextOf R w) + 2 | _ => 0
theorem measB_ok {R : Nat} {S : Src} {w : World} {u : Unit} {ts : List Tok} (h : Rs w R S (.ok u ts)) : measB R S w = 2 * ts.length + 2 := by
 have hx := measX R S w u ts h
 obtain ⟨i, rfl, h⟩ := h
 unfold measB
 rw [h.cells.2.2.1, hx]
 simp
theorem measB_bad {R : Nat} {S : Src} {w : World} {c p : Nat} (h : Rs w R S (.bad c p)) : measB R S w = 0 := by
 obtain ⟨hc, i, h⟩ := h
 unfold measB
 rw [h.cells.2.2.1]
 have : ((c : Nat) : Int) ≠ 0 := by omega
 split
 ·rename_i e
  injection e with e
  injection e with _ e
  exact absurd e this
 ·rfl
theorem BlR.moves {R : Nat} {S : Src} {w : World} {p : Par St} {m : Res (List St)} {l : List St} {V : Value} {σ : Res Unit} {f : Nat} {wr w' : World} (h : BlR R S w p m l V σ f wr) (hR : R < w.heap.size) (hm : Moves R wr w') (hs : Rs w' R S σ) : BlR R S w p m l V σ f w' :=
 ⟨hs, h.2.1.moves hm hR, h.2.2.1.trans hm, h.2.2.2.1, h.2.2.2.2.1, h.2.2.2.2.2⟩
theorem Rs.keepB {w w' : World} {R : Nat} {S : Src} {σ : Res Unit} (h : Rs w R S σ) (ho : ∀ k, k ≤ R → w'.heap[k]? = w.heap[k]?) : Rs w' R S σ := by
 have key : ∀ {i e p}, Rg0 w R S i e p → Rg0 w' R S i e p := fun h => ⟨h.1.of fun k hk => ho k (by omega), h.2.1, by rw [ho R (Nat.le_refl _)]; exact h.2.2⟩
 cases σ with
 | ok u ts => obtain ⟨i, e, h⟩ := h; exact ⟨i, e, key h⟩
 | bad c p => obtain ⟨e, i, h⟩ := h; exact ⟨e, i, key h⟩
set_option maxHeartbeats 6400000 in
theorem rblock_step (R : Nat) (S : Src) (hsm : S.all.length ≤ 4096) (d : Nat) (hd : d ≤ 32) (p : Par St) (hp : StmtR R S d p) (hT : Takes p) : BlockR R S d (fun ts => (wantT S.z [123] ts).bind fun _ r => moreS S.z p r.length [] r) := by
 intro σ0 w ha
 have HR := Lib.hid ha.lt
 have HP := Lib.hid hp
 have HT := Lib.hid hT
 have HA := Lib.hid ha
 obtain ⟨i0, hi, hz0, hz1, hz2⟩ := info_parts info43
 obtain ⟨σ1, hs1⟩ : ∃ σ1, σ1 = mustR S.z [123] σ0 := ⟨_, rfl⟩
 have HS1 : Hid (mustR S.z [123] σ0 = σ1) := hs1.symm
 obtain ⟨fl, hfl⟩ : ∃ fl, fl = (match σ1 with | .ok _ r => r.length | .bad _ _ => 0) := ⟨_, rfl⟩
 have HFl : Hid (∀ u ts, σ1 = .ok u ts → ts.length ≤ fl) := fun u ts h => by subst h; rw [hfl]; exact Nat.le_refl _
 obtain ⟨m, hm⟩ : ∃ m, m = (σ0.bind fun _ ts => (wantT S.z [123] ts).bind fun _ r => moreS S.z p r.length [] r) := ⟨_, rfl⟩
 have HW1 : Hid (m = σ1.bind fun _ ts => moreS S.z p fl [] ts) := by
  show _ = _
  rw [hm, hfl]
  rw [hs1]
  cases σ0 with
  | bad c p => rfl
  | ok u ts =>
   show (wantT S.z [123] ts).bind _ = (wantT S.z [123] ts).bind _
   show (wantT S.z [123] ts).bind _ = Res.bind (wantT S.z [123] ts) fun _ ts' => moreS S.z p (match wantT S.z [123] ts with | .ok _ r => r.length | .bad _ _ => 0) [] ts'
   cases wantT S.z [123] ts <;> rfl
 show Calls _ _ _ _ (RGot R S (QB w.heap.size) w (σ0.bind fun _ ts => (wantT S.z [123] ts).bind fun _ r => moreS S.z p r.length [] r))
 rw [← hm]
 clear hs1 hfl hm hp hT
 cases σ0 with
 | bad c0 p0 =>
  obtain ⟨hne, i, hg⟩ := ha
  obtain ⟨_, _, c2, _, _⟩ := hg.cells
  have q1 : (((c0 : Nat) : Int) == 0) = false := by rw [beq_eq_false_iff_ne]; omega
  have HMv := Lib.hid (Moves.refl R w)
  clear hne hg
  go_enter Tryz.func73, Tryz.ntmps73
  have K := Lib.hid (rmust R S _ [123] ⟨#[123]⟩ w HA.out (by kernel_rfl) (by unfold Byn; decide))
  go_wp2_with fail
  (with_reducible refine K.out.mono ?_)
  clear K
  rintro x w1 ⟨rfl, h1, h2⟩
  have HG : Hid (BlR R S w p m [] (.slice none 0 0) σ1 fl w1) := by
   rw [HS1.out] at h2
   refine ⟨h2, OwnS.nothing _ _, HMv.out.trans h1, HFl.out, fun u ts e => ?_, HW1.out⟩
   rw [e] at h2
   have := h2.few hsm
   simpa using this
  clear h1 h2
  go_wp2
  go_loopw [5] (fun V wr => ∃ l A cp σ f, V = .slice A l.length cp ∧ Hid (BlR R S w p m l (.slice A l.length cp) σ f wr)) (fun _ wr => measB R S wr)
  case atStart => exact ⟨[], none, 0, σ1, fl, rfl, HG.out⟩
  case round =>
   obtain ⟨l, A, cp, σ, f, rfl, HQ⟩ := hrel
   cases σ with
   | bad c0 p0 =>
    have HX : Hid (∀ u ts, (Res.bad c0 p0 : Res Unit) = .ok u ts → seesT S.z [[125]] ts = true) := fun u ts h => by cases h
    generalize hσ : (Res.bad c0 p0 : Res Unit) = σ at *
    have hst := HQ.out.1
    rw [← hσ] at hst
    obtain ⟨hne, i, hg⟩ := hst
    obtain ⟨_, _, c2, _, _⟩ := hg.cells
    have q1 : (((c0 : Nat) : Int) == 0) = false := by rw [beq_eq_false_iff_ne]; omega
    clear hne hg hσ
    have K := Lib.hid (rmust R S σ [125] ⟨#[125]⟩ wr HQ.out.1 (by kernel_rfl) (by unfold Byn; decide))
    have HW : Hid (m = (mustR S.z [125] σ).bind fun _ ts => .ok l ts) := by
     show _ = _
     rw [HQ.out.2.2.2.2.2]
     cases σ with
     | bad c p => rfl
     | ok u ts =>
      have h1 := HX.out u ts rfl
      show moreS S.z p f l ts = (wantT S.z [125] ts).bind _
      unfold wantT
      rw [if_pos h1, moreS_true h1]
      rfl
    go_wp2_with fail
    (with_reducible refine K.out.mono ?_)
    clear K
    rintro x w6 ⟨rfl, h1, h2⟩
    have HF : Hid (Rs w6 R S (mustR S.z [125] σ) ∧ OwnS w.heap.size w6 l (.slice A l.length cp) ∧ Moves R w w6) := ⟨h2, HQ.out.2.1.moves h1 HR.out, HQ.out.2.2.1.trans h1⟩
    clear h1 h2
    go_wp2
    go_ret
    rw [HW.out]
    refine ⟨HF.out.2.2, ⟨l, _, rfl, HF.out.2.1.sts, fun a r h => ?_⟩, ?_⟩
    ·cases hx : mustR S.z [125] σ with
     | bad c0 p0 => rw [hx] at h; cases h
     | ok u0 r0 => rw [hx] at h; injection h
    ·have hu : ∀ (x : Res Unit), (x.bind fun _ ts => Res.ok l ts).unit = x := fun x => by cases x <;> rfl
     rw [hu]
     exact HF.out.1
   | ok u1 ts1 =>
    obtain ⟨i, hi', hg⟩ := HQ.out.1
    obtain ⟨_, _, c2, _, _⟩ := hg.cells
    rw [show ((0 : Nat) : Int) = 0 from rfl] at c2
    clear hi' hg
    have K := Lib.hid (ris R S _ [125] ⟨#[125]⟩ wr HQ.out.1 (by kernel_rfl) (by unfold Byn; decide))
    cases hb : isR S.z [125] (.ok u1 ts1) with
    | true =>
     have HX : Hid (∀ u ts, (Res.ok u1 ts1 : Res Unit) = .ok u ts → seesT S.z [[125]] ts = true) := fun u ts h => by injection h with _ h; rw [← h]; exact hb
     rw [hb] at K
     clear hb
     go_wp2_with fail
     (with_reducible refine K.out.mono ?_)
     clear K
     rintro x w5 ⟨rfl, h1⟩
     have HQ' := Lib.hid (HQ.out.moves HR.out (Moves.of_below h1 (Nat.le_refl _)) (HQ.out.1.below h1 (Nat.le_refl _)))
     clear h1 HQ c2
     rename Hid (BlR R S w p m l _ _ f w5) => HQ
     generalize (Res.ok u1 ts1 : Res Unit) = σ at *
     have K := Lib.hid (rmust R S σ [125] ⟨#[125]⟩ w5 HQ.out.1 (by kernel_rfl) (by unfold Byn; decide))
     have HW : Hid (m = (mustR S.z [125] σ).bind fun _ ts => .ok l ts) := by
      show _ = _
      rw [HQ.out.2.2.2.2.2]
      cases σ with
      | bad c p => rfl
      | ok u ts =>
       have h1 := HX.out u ts rfl
       show moreS S.z p f l ts = (wantT S.z [125] ts).bind _
       unfold wantT
       rw [if_pos h1, moreS_true h1]
       rfl
     go_wp2_with fail
     (with_reducible refine K.out.mono ?_)
     clear K
     rintro x w6 ⟨rfl, h1, h2⟩
     have HF : Hid (Rs w6 R S (mustR S.z [125] σ) ∧ OwnS w.heap.size w6 l (.slice A l.length cp) ∧ Moves R w w6) := ⟨h2, HQ.out.2.1.moves h1 HR.out, HQ.out.2.2.1.trans h1⟩
     clear h1 h2
     go_wp2
     go_ret
     rw [HW.out]
     refine ⟨HF.out.2.2, ⟨l, _, rfl, HF.out.2.1.sts, fun a r h => ?_⟩, ?_⟩
     ·cases hx : mustR S.z [125] σ with
      | bad c0 p0 => rw [hx] at h; cases h
      | ok u0 r0 => rw [hx] at h; injection h
     ·have hu : ∀ (x : Res Unit), (x.bind fun _ ts => Res.ok l ts).unit = x := fun x => by cases x <;> rfl
      rw [hu]
      exact HF.out.1
    | false =>
     have HN : Hid (seesT S.z [[125]] ts1 = false) := hb
     have HMs := Lib.hid (measB_ok HQ.out.1)
     rw [hb] at K
     clear hb
     go_wp2_with fail
     (with_reducible refine K.out.mono ?_)
     clear K
     rintro x w4 ⟨rfl, h1⟩
     have HQ4 := Lib.hid (HQ.out.moves HR.out (Moves.of_below h1 (Nat.le_refl _)) (HQ.out.1.below h1 (Nat.le_refl _)))
     clear h1 c2
     have K : Hid (Calls Tryz.prog 125 #[.pointer (some ⟨R, 0, none⟩), .int .i64 d] w4 (RGot R S (QSt w4.heap.size) w4 (p ts1))) := HP.out _ w4 HQ4.out.1
     have hn : l.length ≤ 4096 := by have := HQ4.out.2.2.2.2.1 u1 ts1 rfl; omega
     go_wp2_with fail
     (with_reducible refine K.out.mono ?_)
     clear K
     rintro x w5 ⟨hm, ⟨s, sv, rfl, hq, hv⟩, r5⟩
     obtain ⟨⟨ke, kb, kf⟩, rfl, he4, hb4, hf4⟩ := hq
     obtain ⟨A1, c1, h1⟩ := exsC_slice he4
     obtain ⟨A2, c2, h2⟩ := stsC_slice hb4
     obtain ⟨A3, c3, h3⟩ := stsC_slice hf4
     dsimp only at h1 h2 h3
     subst h1 h2 h3
     have bt := below_alloc w5 (.cells #[.int .i64 s.op, .string (strN s.text), .slice A1 s.exprs.length c1, .slice A2 s.body.length c2, .slice A3 s.els.length c3, .int .i64 s.place] 145)
     have mt := hm.below bt (Nat.le_refl _)
     obtain ⟨ks, hks, hown, hkid⟩ := HQ4.out.2.1.moves mt HR.out
     have hap : StK (w5.alloc (.cells #[.int .i64 s.op, .string (strN s.text), .slice A1 s.exprs.length c1, .slice A2 s.body.length c2, .slice A3 s.els.length c3, .int .i64 s.place] 145)) (fun q => (w.heap.size ≤ q ∧ some q ≠ (Value.slice A l.length cp).ownBlock) ∧ q < (w5.alloc (.cells #[.int .i64 s.op, .string (strN s.text), .slice A1 s.exprs.length c1, .slice A2 s.body.length c2, .slice A3 s.els.length c3, .int .i64 s.place] 145)).heap.size) s ⟨.slice A1 s.exprs.length c1, .slice A2 s.body.length c2, .slice A3 s.els.length c3⟩ := by
      refine (StK.same (D := Rng w4.heap.size w5.heap.size) ⟨he4, hb4, hf4⟩ fun q h => bt.block q h.2).more fun q h => ⟨⟨?_, ?_⟩, ?_⟩
      ·have := h.1; have := HQ4.out.2.2.1.size; omega
      ·intro e
       obtain ⟨ks', _, ho', _⟩ := HQ4.out.2.1
       have h1 := (ho'.lt q e.symm).2
       have h2 := h.1
       omega
      ·have := h.2; have := bt.size; omega
     have HO := Lib.hid hown
     have HKd := Lib.hid hkid
     have HAp := Lib.hid hap
     have HNw : Hid (∀ (j : Nat) (u : Value), (stC s (.slice A1 s.exprs.length c1) (.slice A2 s.body.length c2) (.slice A3 s.els.length c3))[j]? = some u → (w5.alloc (.cells #[.int .i64 s.op, .string (strN s.text), .slice A1 s.exprs.length c1, .slice A2 s.body.length c2, .slice A3 s.els.length c3, .int .i64 s.place] 145)).cell? ((Addr.mk w5.heap.size 0 none).add j) = some u) := fun j u hu => by
      rw [Addr.add_mid]
      exact range_of (cs := stC s (.slice A1 s.exprs.length c1) (.slice A2 s.body.length c2) (.slice A3 s.els.length c3)) (heap_alloc_new w5 _) j u hu
     have H5 : Hid (Rs (w5.alloc (.cells #[.int .i64 s.op, .string (strN s.text), .slice A1 s.exprs.length c1, .slice A2 s.body.length c2, .slice A3 s.els.length c3, .int .i64 s.place] 145)) R S (p ts1).unit ∧ Moves R w (w5.alloc (.cells #[.int .i64 s.op, .string (strN s.text), .slice A1 s.exprs.length c1, .slice A2 s.body.length c2, .slice A3 s.els.length c3, .int .i64 s.place] 145)) ∧ (∀ a r, p ts1 = .ok a r → s = a)) := ⟨r5.below bt (Nat.le_refl _), HQ4.out.2.2.1.trans mt, hv⟩
     have hsz := H5.out.2.1.size
     clear hm r5 hv he4 hb4 hf4 bt mt hown hkid hap
     simp only [stC]
     go_wp2_with (at_builtin; refine wpList_append_one _ rfl (.tmp 30) (.tmp 34) 67 rfl w.heap.size 145 i0 _ 6 104 Tryz.underlying67 hi hz0 hz1 hz2 rfl (by omega) _ _ _ rfl HO.out ⟨w5.heap.size, 0, none⟩ 1 (stC s (.slice A1 s.exprs.length c1) (.slice A2 s.body.length c2) (.slice A3 s.els.length c3)) rfl rfl HNw.out one6 (by omega) (by unfold maxLen; omega) hsz ?_; intro v6 w6 ho6 hg6 hv6)
     go_roundw
     case rel =>
      obtain ⟨O6, B6⟩ := OwnS.grown (k := ⟨.slice A1 s.exprs.length c1, .slice A2 s.body.length c2, .slice A3 s.els.length c3⟩) hks HKd.out HO.out ho6 hg6 hv6 HAp.out hsz
      obtain ⟨A6, c6, hA6⟩ := O6.shape
      have st6 : Rs w6 R S (p ts1).unit := H5.out.1.keepB fun q hq => B6.block q (by have := HR.out; omega)
      have hq := HQ.out
      cases hx : p ts1 with
      | bad c0 p0 =>
       rw [hx] at st6
       refine ⟨l ++ [s], A6, c6, .bad c0 p0, 0, hA6, st6, hA6 ▸ O6, H5.out.2.1.low B6 (Nat.le_refl _), fun u ts h => (by cases h), fun u ts h => (by cases h), ?_⟩
       rw [hq.2.2.2.2.2]
       show moreS S.z p f l ts1 = _
       rw [moreS_zero_bad HN.out hx]
       rfl
      | ok a r0 =>
       rw [hx] at st6
       have ht := HT.out _ _ _ hx
       have h4 := hq.2.2.2.1 u1 ts1 rfl
       have h5 := hq.2.2.2.2.1 u1 ts1 rfl
       have h6 := hq.2.2.2.2.2
       obtain ⟨f', rfl⟩ : ∃ f', f = f' + 1 := ⟨f - 1, by omega⟩
       refine ⟨l ++ [s], A6, c6, .ok () r0, f', hA6, st6, hA6 ▸ O6, H5.out.2.1.low B6 (Nat.le_refl _), fun u ts h => ?_, fun u ts h => ?_, ?_⟩
       ·injection h with _ h
        rw [← h]
        omega
       ·injection h with _ h
        rw [← h]
        simp
        omega
       ·rw [h6]
        show moreS S.z p (f' + 1) l ts1 = moreS S.z p f' (l ++ [s]) r0
        rw [moreS_false HN.out, hx, H5.out.2.2 a r0 hx]
        rfl
     case measure =>
      obtain ⟨O6, B6⟩ := OwnS.grown (k := ⟨.slice A1 s.exprs.length c1, .slice A2 s.body.length c2, .slice A3 s.els.length c3⟩) hks HKd.out HO.out ho6 hg6 hv6 HAp.out hsz
      have st6 : Rs w6 R S (p ts1).unit := H5.out.1.keepB fun q hq => B6.block q (by have := HR.out; omega)
      rw [HMs.out]
      cases hx : p ts1 with
      | bad c0 p0 =>
       rw [hx] at st6
       rw [measB_bad st6]
       omega
      | ok a r0 =>
       rw [hx] at st6
       have ht := HT.out _ _ _ hx
       rw [measB_ok st6]
       omega
 | ok u0 ts0 =>
  obtain ⟨i, hi', hg⟩ := ha
  obtain ⟨_, _, c2, _, _⟩ := hg.cells
  rw [show ((0 : Nat) : Int) = 0 from rfl] at c2
  clear hi' hg
  have K := Lib.hid (ris R S _ [123] ⟨#[123]⟩ w HA.out (by kernel_rfl) (by unfold Byn; decide))
  cases hb : isR S.z [123] (.ok u0 ts0) with
  | false =>
   rw [hb] at K
   clear hb
   go_enter Tryz.func73, Tryz.ntmps73
   go_wp2_with fail
   (with_reducible refine K.out.mono ?_)
   clear K
   rintro x w0 ⟨rfl, h1⟩
   have HA0 := Lib.hid (HA.out.below h1 (Nat.le_refl _))
   have HMv := Lib.hid (Moves.of_below (R := R) h1 (Nat.le_refl _))
   clear h1 c2
   have K := Lib.hid (rmust R S _ [123] ⟨#[123]⟩ w0 HA0.out (by kernel_rfl) (by unfold Byn; decide))
   go_wp2_with fail
   (with_reducible refine K.out.mono ?_)
   clear K
   rintro x w1 ⟨rfl, h1, h2⟩
   have HG : Hid (BlR R S w p m [] (.slice none 0 0) σ1 fl w1) := by
    rw [HS1.out] at h2
    refine ⟨h2, OwnS.nothing _ _, HMv.out.trans h1, HFl.out, fun u ts e => ?_, HW1.out⟩
    rw [e] at h2
    have := h2.few hsm
    simpa using this
   clear h1 h2
   go_wp2
   go_loopw [5] (fun V wr => ∃ l A cp σ f, V = .slice A l.length cp ∧ Hid (BlR R S w p m l (.slice A l.length cp) σ f wr)) (fun _ wr => measB R S wr)
   case atStart => exact ⟨[], none, 0, σ1, fl, rfl, HG.out⟩
   case round =>
    obtain ⟨l, A, cp, σ, f, rfl, HQ⟩ := hrel
    cases σ with
    | bad c0 p0 =>
     have HX : Hid (∀ u ts, (Res.bad c0 p0 : Res Unit) = .ok u ts → seesT S.z [[125]] ts = true) := fun u ts h => by cases h
     generalize hσ : (Res.bad c0 p0 : Res Unit) = σ at *
     have hst := HQ.out.1
     rw [← hσ] at hst
     obtain ⟨hne, i, hg⟩ := hst
     obtain ⟨_, _, c2, _, _⟩ := hg.cells
     have q1 : (((c0 : Nat) : Int) == 0) = false := by rw [beq_eq_false_iff_ne]; omega
     clear hne hg hσ
     have K := Lib.hid (rmust R S σ [125] ⟨#[125]⟩ wr HQ.out.1 (by kernel_rfl) (by unfold Byn; decide))
     have HW : Hid (m = (mustR S.z [125] σ).bind fun _ ts => .ok l ts) := by
      show _ = _
      rw [HQ.out.2.2.2.2.2]
      cases σ with
      | bad c p => rfl
      | ok u ts =>
       have h1 := HX.out u ts rfl
       show moreS S.z p f l ts = (wantT S.z [125] ts).bind _
       unfold wantT
       rw [if_pos h1, moreS_true h1]
       rfl
     go_wp2_with fail
     (with_reducible refine K.out.mono ?_)
     clear K
     rintro x w6 ⟨rfl, h1, h2⟩
     have HF : Hid (Rs w6 R S (mustR S.z [125] σ) ∧ OwnS w.heap.size w6 l (.slice A l.length cp) ∧ Moves R w w6) := ⟨h2, HQ.out.2.1.moves h1 HR.out, HQ.out.2.2.1.trans h1⟩
     clear h1 h2
     go_wp2
     go_ret
     rw [HW.out]
     refine ⟨HF.out.2.2, ⟨l, _, rfl, HF.out.2.1.sts, fun a r h => ?_⟩, ?_⟩
     ·cases hx : mustR S.z [125] σ with
      | bad c0 p0 => rw [hx] at h; cases h
      | ok u0 r0 => rw [hx] at h; injection h
     ·have hu : ∀ (x : Res Unit), (x.bind fun _ ts => Res.ok l ts).unit = x := fun x => by cases x <;> rfl
      rw [hu]
      exact HF.out.1
    | ok u1 ts1 =>
     obtain ⟨i, hi', hg⟩ := HQ.out.1
     obtain ⟨_, _, c2, _, _⟩ := hg.cells
     rw [show ((0 : Nat) : Int) = 0 from rfl] at c2
     clear hi' hg
     have K := Lib.hid (ris R S _ [125] ⟨#[125]⟩ wr HQ.out.1 (by kernel_rfl) (by unfold Byn; decide))
     cases hb : isR S.z [125] (.ok u1 ts1) with
     | true =>
      have HX : Hid (∀ u ts, (Res.ok u1 ts1 : Res Unit) = .ok u ts → seesT S.z [[125]] ts = true) := fun u ts h => by injection h with _ h; rw [← h]; exact hb
      rw [hb] at K
      clear hb
      go_wp2_with fail
      (with_reducible refine K.out.mono ?_)
      clear K
      rintro x w5 ⟨rfl, h1⟩
      have HQ' := Lib.hid (HQ.out.moves HR.out (Moves.of_below h1 (Nat.le_refl _)) (HQ.out.1.below h1 (Nat.le_refl _)))
      clear h1 HQ c2
      rename Hid (BlR R S w p m l _ _ f w5) => HQ
      generalize (Res.ok u1 ts1 : Res Unit) = σ at *
      have K := Lib.hid (rmust R S σ [125] ⟨#[125]⟩ w5 HQ.out.1 (by kernel_rfl) (by unfold Byn; decide))
      have HW : Hid (m = (mustR S.z [125] σ).bind fun _ ts => .ok l ts) := by
       show _ = _
       rw [HQ.out.2.2.2.2.2]
       cases σ with
       | bad c p => rfl
       | ok u ts =>
        have h1 := HX.out u ts rfl
        show moreS S.z p f l ts = (wantT S.z [125] ts).bind _
        unfold wantT
        rw [if_pos h1, moreS_true h1]
        rfl
      go_wp2_with fail
      (with_reducible refine K.out.mono ?_)
      clear K
      rintro x w6 ⟨rfl, h1, h2⟩
      have HF : Hid (Rs w6 R S (mustR S.z [125] σ) ∧ OwnS w.heap.size w6 l (.slice A l.length cp) ∧ Moves R w w6) := ⟨h2, HQ.out.2.1.moves h1 HR.out, HQ.out.2.2.1.trans h1⟩
      clear h1 h2
      go_wp2
      go_ret
      rw [HW.out]
      refine ⟨HF.out.2.2, ⟨l, _, rfl, HF.out.2.1.sts, fun a r h => ?_⟩, ?_⟩
      ·cases hx : mustR S.z [125] σ with
       | bad c0 p0 => rw [hx] at h; cases h
       | ok u0 r0 => rw [hx] at h; injection h
      ·have hu : ∀ (x : Res Unit), (x.bind fun _ ts => Res.ok l ts).unit = x := fun x => by cases x <;> rfl
       rw [hu]
       exact HF.out.1
     | false =>
      have HN : Hid (seesT S.z [[125]] ts1 = false) := hb
      have HMs := Lib.hid (measB_ok HQ.out.1)
      rw [hb] at K
      clear hb
      go_wp2_with fail
      (with_reducible refine K.out.mono ?_)
      clear K
      rintro x w4 ⟨rfl, h1⟩
      have HQ4 := Lib.hid (HQ.out.moves HR.out (Moves.of_below h1 (Nat.le_refl _)) (HQ.out.1.below h1 (Nat.le_refl _)))
      clear h1 c2
      have K : Hid (Calls Tryz.prog 125 #[.pointer (some ⟨R, 0, none⟩), .int .i64 d] w4 (RGot R S (QSt w4.heap.size) w4 (p ts1))) := HP.out _ w4 HQ4.out.1
      have hn : l.length ≤ 4096 := by have := HQ4.out.2.2.2.2.1 u1 ts1 rfl; omega
      go_wp2_with fail
      (with_reducible refine K.out.mono ?_)
      clear K
      rintro x w5 ⟨hm, ⟨s, sv, rfl, hq, hv⟩, r5⟩
      obtain ⟨⟨ke, kb, kf⟩, rfl, he4, hb4, hf4⟩ := hq
      obtain ⟨A1, c1, h1⟩ := exsC_slice he4
      obtain ⟨A2, c2, h2⟩ := stsC_slice hb4
      obtain ⟨A3, c3, h3⟩ := stsC_slice hf4
      dsimp only at h1 h2 h3
      subst h1 h2 h3
      have bt := below_alloc w5 (.cells #[.int .i64 s.op, .string (strN s.text), .slice A1 s.exprs.length c1, .slice A2 s.body.length c2, .slice A3 s.els.length c3, .int .i64 s.place] 145)
      have mt := hm.below bt (Nat.le_refl _)
      obtain ⟨ks, hks, hown, hkid⟩ := HQ4.out.2.1.moves mt HR.out
      have hap : StK (w5.alloc (.cells #[.int .i64 s.op, .string (strN s.text), .slice A1 s.exprs.length c1, .slice A2 s.body.length c2, .slice A3 s.els.length c3, .int .i64 s.place] 145)) (fun q => (w.heap.size ≤ q ∧ some q ≠ (Value.slice A l.length cp).ownBlock) ∧ q < (w5.alloc (.cells #[.int .i64 s.op, .string (strN s.text), .slice A1 s.exprs.length c1, .slice A2 s.body.length c2, .slice A3 s.els.length c3, .int .i64 s.place] 145)).heap.size) s ⟨.slice A1 s.exprs.length c1, .slice A2 s.body.length c2, .slice A3 s.els.length c3⟩ := by
       refine (StK.same (D := Rng w4.heap.size w5.heap.size) ⟨he4, hb4, hf4⟩ fun q h => bt.block q h.2).more fun q h => ⟨⟨?_, ?_⟩, ?_⟩
       ·have := h.1; have := HQ4.out.2.2.1.size; omega
       ·intro e
        obtain ⟨ks', _, ho', _⟩ := HQ4.out.2.1
        have h1 := (ho'.lt q e.symm).2
        have h2 := h.1
        omega
       ·have := h.2; have := bt.size; omega
      have HO := Lib.hid hown
      have HKd := Lib.hid hkid
      have HAp := Lib.hid hap
      have HNw : Hid (∀ (j : Nat) (u : Value), (stC s (.slice A1 s.exprs.length c1) (.slice A2 s.body.length c2) (.slice A3 s.els.length c3))[j]? = some u → (w5.alloc (.cells #[.int .i64 s.op, .string (strN s.text), .slice A1 s.exprs.length c1, .slice A2 s.body.length c2, .slice A3 s.els.length c3, .int .i64 s.place] 145)).cell? ((Addr.mk w5.heap.size 0 none).add j) = some u) := fun j u hu => by
       rw [Addr.add_mid]
       exact range_of (cs := stC s (.slice A1 s.exprs.length c1) (.slice A2 s.body.length c2) (.slice A3 s.els.length c3)) (heap_alloc_new w5 _) j u hu
      have H5 : Hid (Rs (w5.alloc (.cells #[.int .i64 s.op, .string (strN s.text), .slice A1 s.exprs.length c1, .slice A2 s.body.length c2, .slice A3 s.els.length c3, .int .i64 s.place] 145)) R S (p ts1).unit ∧ Moves R w (w5.alloc (.cells #[.int .i64 s.op, .string (strN s.text), .slice A1 s.exprs.length c1, .slice A2 s.body.length c2, .slice A3 s.els.length c3, .int .i64 s.place] 145)) ∧ (∀ a r, p ts1 = .ok a r → s = a)) := ⟨r5.below bt (Nat.le_refl _), HQ4.out.2.2.1.trans mt, hv⟩
      have hsz := H5.out.2.1.size
      clear hm r5 hv he4 hb4 hf4 bt mt hown hkid hap
      simp only [stC]
      go_wp2_with (at_builtin; refine wpList_append_one _ rfl (.tmp 30) (.tmp 34) 67 rfl w.heap.size 145 i0 _ 6 104 Tryz.underlying67 hi hz0 hz1 hz2 rfl (by omega) _ _ _ rfl HO.out ⟨w5.heap.size, 0, none⟩ 1 (stC s (.slice A1 s.exprs.length c1) (.slice A2 s.body.length c2) (.slice A3 s.els.length c3)) rfl rfl HNw.out one6 (by omega) (by unfold maxLen; omega) hsz ?_; intro v6 w6 ho6 hg6 hv6)
      go_roundw
      case rel =>
       obtain ⟨O6, B6⟩ := OwnS.grown (k := ⟨.slice A1 s.exprs.length c1, .slice A2 s.body.length c2, .slice A3 s.els.length c3⟩) hks HKd.out HO.out ho6 hg6 hv6 HAp.out hsz
       obtain ⟨A6, c6, hA6⟩ := O6.shape
       have st6 : Rs w6 R S (p ts1).unit := H5.out.1.keepB fun q hq => B6.block q (by have := HR.out; omega)
       have hq := HQ.out
       cases hx : p ts1 with
       | bad c0 p0 =>
        rw [hx] at st6
        refine ⟨l ++ [s], A6, c6, .bad c0 p0, 0, hA6, st6, hA6 ▸ O6, H5.out.2.1.low B6 (Nat.le_refl _), fun u ts h => (by cases h), fun u ts h => (by cases h), ?_⟩
        rw [hq.2.2.2.2.2]
        show moreS S.z p f l ts1 = _
        rw [moreS_zero_bad HN.out hx]
        rfl
       | ok a r0 =>
        rw [hx] at st6
        have ht := HT.out _ _ _ hx
        have h4 := hq.2.2.2.1 u1 ts1 rfl
        have h5 := hq.2.2.2.2.1 u1 ts1 rfl
        have h6 := hq.2.2.2.2.2
        obtain ⟨f', rfl⟩ : ∃ f', f = f' + 1 := ⟨f - 1, by omega⟩
        refine ⟨l ++ [s], A6, c6, .ok () r0, f', hA6, st6, hA6 ▸ O6, H5.out.2.1.low B6 (Nat.le_refl _), fun u ts h => ?_, fun u ts h => ?_, ?_⟩
        ·injection h with _ h
         rw [← h]
         omega
        ·injection h with _ h
         rw [← h]
         simp
         omega
        ·rw [h6]
         show moreS S.z p (f' + 1) l ts1 = moreS S.z p f' (l ++ [s]) r0
         rw [moreS_false HN.out, hx, H5.out.2.2 a r0 hx]
         rfl
      case measure =>
       obtain ⟨O6, B6⟩ := OwnS.grown (k := ⟨.slice A1 s.exprs.length c1, .slice A2 s.body.length c2, .slice A3 s.els.length c3⟩) hks HKd.out HO.out ho6 hg6 hv6 HAp.out hsz
       have st6 : Rs w6 R S (p ts1).unit := H5.out.1.keepB fun q hq => B6.block q (by have := HR.out; omega)
       rw [HMs.out]
       cases hx : p ts1 with
       | bad c0 p0 =>
        rw [hx] at st6
        rw [measB_bad st6]
        omega
       | ok a r0 =>
        rw [hx] at st6
        have ht := HT.out _ _ _ hx
        rw [measB_ok st6]
        omega
  | true =>
   rw [hb] at K
   clear hb
   go_enter Tryz.func73, Tryz.ntmps73
   go_wp2_with fail
   (with_reducible refine K.out.mono ?_)
   clear K
   rintro x w00 ⟨rfl, h1⟩
   have HA00 := Lib.hid (HA.out.below h1 (Nat.le_refl _))
   have HMv0 := Lib.hid (Moves.of_below (R := R) h1 (Nat.le_refl _))
   clear h1 c2
   have K := Lib.hid (rdeep R S _ d w00 HA00.out)
   go_wp2_with fail
   (with_reducible refine K.out.mono ?_)
   clear K
   rintro x w0 ⟨rfl, h1, h2⟩
   have HA0 : Hid (Rs w0 R S (.ok u0 ts0)) := by unfold deepR at h2; rw [if_pos hd] at h2; exact h2
   have HMv := Lib.hid (HMv0.out.trans h1)
   clear h1 h2
   have K := Lib.hid (rmust R S _ [123] ⟨#[123]⟩ w0 HA0.out (by kernel_rfl) (by unfold Byn; decide))
   go_wp2_with fail
   (with_reducible refine K.out.mono ?_)
   clear K
   rintro x w1 ⟨rfl, h1, h2⟩
   have HG : Hid (BlR R S w p m [] (.slice none 0 0) σ1 fl w1) := by
    rw [HS1.out] at h2
    refine ⟨h2, OwnS.nothing _ _, HMv.out.trans h1, HFl.out, fun u ts e => ?_, HW1.out⟩
    rw [e] at h2
    have := h2.few hsm
    simpa using this
   clear h1 h2
   go_wp2
   go_loopw [5] (fun V wr => ∃ l A cp σ f, V = .slice A l.length cp ∧ Hid (BlR R S w p m l (.slice A l.length cp) σ f wr)) (fun _ wr => measB R S wr)
   case atStart => exact ⟨[], none, 0, σ1, fl, rfl, HG.out⟩
   case round =>
    obtain ⟨l, A, cp, σ, f, rfl, HQ⟩ := hrel
    cases σ with
    | bad c0 p0 =>
     have HX : Hid (∀ u ts, (Res.bad c0 p0 : Res Unit) = .ok u ts → seesT S.z [[125]] ts = true) := fun u ts h => by cases h
     generalize hσ : (Res.bad c0 p0 : Res Unit) = σ at *
     have hst := HQ.out.1
     rw [← hσ] at hst
     obtain ⟨hne, i, hg⟩ := hst
     obtain ⟨_, _, c2, _, _⟩ := hg.cells
     have q1 : (((c0 : Nat) : Int) == 0) = false := by rw [beq_eq_false_iff_ne]; omega
     clear hne hg hσ
     have K := Lib.hid (rmust R S σ [125] ⟨#[125]⟩ wr HQ.out.1 (by kernel_rfl) (by unfold Byn; decide))
     have HW : Hid (m = (mustR S.z [125] σ).bind fun _ ts => .ok l ts) := by
      show _ = _
      rw [HQ.out.2.2.2.2.2]
      cases σ with
      | bad c p => rfl
      | ok u ts =>
       have h1 := HX.out u ts rfl
       show moreS S.z p f l ts = (wantT S.z [125] ts).bind _
       unfold wantT
       rw [if_pos h1, moreS_true h1]
       rfl
     go_wp2_with fail
     (with_reducible refine K.out.mono ?_)
     clear K
     rintro x w6 ⟨rfl, h1, h2⟩
     have HF : Hid (Rs w6 R S (mustR S.z [125] σ) ∧ OwnS w.heap.size w6 l (.slice A l.length cp) ∧ Moves R w w6) := ⟨h2, HQ.out.2.1.moves h1 HR.out, HQ.out.2.2.1.trans h1⟩
     clear h1 h2
     go_wp2
     go_ret
     rw [HW.out]
     refine ⟨HF.out.2.2, ⟨l, _, rfl, HF.out.2.1.sts, fun a r h => ?_⟩, ?_⟩
     ·cases hx : mustR S.z [125] σ with
      | bad c0 p0 => rw [hx] at h; cases h
      | ok u0 r0 => rw [hx] at h; injection h
     ·have hu : ∀ (x : Res Unit), (x.bind fun _ ts => Res.ok l ts).unit = x := fun x => by cases x <;> rfl
      rw [hu]
      exact HF.out.1
    | ok u1 ts1 =>
     obtain ⟨i, hi', hg⟩ := HQ.out.1
     obtain ⟨_, _, c2, _, _⟩ := hg.cells
     rw [show ((0 : Nat) : Int) = 0 from rfl] at c2
     clear hi' hg
     have K := Lib.hid (ris R S _ [125] ⟨#[125]⟩ wr HQ.out.1 (by kernel_rfl) (by unfold Byn; decide))
     cases hb : isR S.z [125] (.ok u1 ts1) with
     | true =>
      have HX : Hid (∀ u ts, (Res.ok u1 ts1 : Res Unit) = .ok u ts → seesT S.z [[125]] ts = true) := fun u ts h => by injection h with _ h; rw [← h]; exact hb
      rw [hb] at K
      clear hb
      go_wp2_with fail
      (with_reducible refine K.out.mono ?_)
      clear K
      rintro x w5 ⟨rfl, h1⟩
      have HQ' := Lib.hid (HQ.out.moves HR.out (Moves.of_below h1 (Nat.le_refl _)) (HQ.out.1.below h1 (Nat.le_refl _)))
      clear h1 HQ c2
      rename Hid (BlR R S w p m l _ _ f w5) => HQ
      generalize (Res.ok u1 ts1 : Res Unit) = σ at *
      have K := Lib.hid (rmust R S σ [125] ⟨#[125]⟩ w5 HQ.out.1 (by kernel_rfl) (by unfold Byn; decide))
      have HW : Hid (m = (mustR S.z [125] σ).bind fun _ ts => .ok l ts) := by
       show _ = _
       rw [HQ.out.2.2.2.2.2]
       cases σ with
       | bad c p => rfl
       | ok u ts =>
        have h1 := HX.out u ts rfl
        show moreS S.z p f l ts = (wantT S.z [125] ts).bind _
        unfold wantT
        rw [if_pos h1, moreS_true h1]
        rfl
      go_wp2_with fail
      (with_reducible refine K.out.mono ?_)
      clear K
      rintro x w6 ⟨rfl, h1, h2⟩
      have HF : Hid (Rs w6 R S (mustR S.z [125] σ) ∧ OwnS w.heap.size w6 l (.slice A l.length cp) ∧ Moves R w w6) := ⟨h2, HQ.out.2.1.moves h1 HR.out, HQ.out.2.2.1.trans h1⟩
      clear h1 h2
      go_wp2
      go_ret
      rw [HW.out]
      refine ⟨HF.out.2.2, ⟨l, _, rfl, HF.out.2.1.sts, fun a r h => ?_⟩, ?_⟩
      ·cases hx : mustR S.z [125] σ with
       | bad c0 p0 => rw [hx] at h; cases h
       | ok u0 r0 => rw [hx] at h; injection h
      ·have hu : ∀ (x : Res Unit), (x.bind fun _ ts => Res.ok l ts).unit = x := fun x => by cases x <;> rfl
       rw [hu]
       exact HF.out.1
     | false =>
      have HN : Hid (seesT S.z [[125]] ts1 = false) := hb
      have HMs := Lib.hid (measB_ok HQ.out.1)
      rw [hb] at K
      clear hb
      go_wp2_with fail
      (with_reducible refine K.out.mono ?_)
      clear K
      rintro x w4 ⟨rfl, h1⟩
      have HQ4 := Lib.hid (HQ.out.moves HR.out (Moves.of_below h1 (Nat.le_refl _)) (HQ.out.1.below h1 (Nat.le_refl _)))
      clear h1 c2
      have K : Hid (Calls Tryz.prog 125 #[.pointer (some ⟨R, 0, none⟩), .int .i64 d] w4 (RGot R S (QSt w4.heap.size) w4 (p ts1))) := HP.out _ w4 HQ4.out.1
      have hn : l.length ≤ 4096 := by have := HQ4.out.2.2.2.2.1 u1 ts1 rfl; omega
      go_wp2_with fail
      (with_reducible refine K.out.mono ?_)
      clear K
      rintro x w5 ⟨hm, ⟨s, sv, rfl, hq, hv⟩, r5⟩
      obtain ⟨⟨ke, kb, kf⟩, rfl, he4, hb4, hf4⟩ := hq
      obtain ⟨A1, c1, h1⟩ := exsC_slice he4
      obtain ⟨A2, c2, h2⟩ := stsC_slice hb4
      obtain ⟨A3, c3, h3⟩ := stsC_slice hf4
      dsimp only at h1 h2 h3
      subst h1 h2 h3
      have bt := below_alloc w5 (.cells #[.int .i64 s.op, .string (strN s.text), .slice A1 s.exprs.length c1, .slice A2 s.body.length c2, .slice A3 s.els.length c3, .int .i64 s.place] 145)
      have mt := hm.below bt (Nat.le_refl _)
      obtain ⟨ks, hks, hown, hkid⟩ := HQ4.out.2.1.moves mt HR.out
      have hap : StK (w5.alloc (.cells #[.int .i64 s.op, .string (strN s.text), .slice A1 s.exprs.length c1, .slice A2 s.body.length c2, .slice A3 s.els.length c3, .int .i64 s.place] 145)) (fun q => (w.heap.size ≤ q ∧ some q ≠ (Value.slice A l.length cp).ownBlock) ∧ q < (w5.alloc (.cells #[.int .i64 s.op, .string (strN s.text), .slice A1 s.exprs.length c1, .slice A2 s.body.length c2, .slice A3 s.els.length c3, .int .i64 s.place] 145)).heap.size) s ⟨.slice A1 s.exprs.length c1, .slice A2 s.body.length c2, .slice A3 s.els.length c3⟩ := by
       refine (StK.same (D := Rng w4.heap.size w5.heap.size) ⟨he4, hb4, hf4⟩ fun q h => bt.block q h.2).more fun q h => ⟨⟨?_, ?_⟩, ?_⟩
       ·have := h.1; have := HQ4.out.2.2.1.size; omega
       ·intro e
        obtain ⟨ks', _, ho', _⟩ := HQ4.out.2.1
        have h1 := (ho'.lt q e.symm).2
        have h2 := h.1
        omega
       ·have := h.2; have := bt.size; omega
      have HO := Lib.hid hown
      have HKd := Lib.hid hkid
      have HAp := Lib.hid hap
      have HNw : Hid (∀ (j : Nat) (u : Value), (stC s (.slice A1 s.exprs.length c1) (.slice A2 s.body.length c2) (.slice A3 s.els.length c3))[j]? = some u → (w5.alloc (.cells #[.int .i64 s.op, .string (strN s.text), .slice A1 s.exprs.length c1, .slice A2 s.body.length c2, .slice A3 s.els.length c3, .int .i64 s.place] 145)).cell? ((Addr.mk w5.heap.size 0 none).add j) = some u) := fun j u hu => by
       rw [Addr.add_mid]
       exact range_of (cs := stC s (.slice A1 s.exprs.length c1) (.slice A2 s.body.length c2) (.slice A3 s.els.length c3)) (heap_alloc_new w5 _) j u hu
      have H5 : Hid (Rs (w5.alloc (.cells #[.int .i64 s.op, .string (strN s.text), .slice A1 s.exprs.length c1, .slice A2 s.body.length c2, .slice A3 s.els.length c3, .int .i64 s.place] 145)) R S (p ts1).unit ∧ Moves R w (w5.alloc (.cells #[.int .i64 s.op, .string (strN s.text), .slice A1 s.exprs.length c1, .slice A2 s.body.length c2, .slice A3 s.els.length c3, .int .i64 s.place] 145)) ∧ (∀ a r, p ts1 = .ok a r → s = a)) := ⟨r5.below bt (Nat.le_refl _), HQ4.out.2.2.1.trans mt, hv⟩
      have hsz := H5.out.2.1.size
      clear hm r5 hv he4 hb4 hf4 bt mt hown hkid hap
      simp only [stC]
      go_wp2_with (at_builtin; refine wpList_append_one _ rfl (.tmp 30) (.tmp 34) 67 rfl w.heap.size 145 i0 _ 6 104 Tryz.underlying67 hi hz0 hz1 hz2 rfl (by omega) _ _ _ rfl HO.out ⟨w5.heap.size, 0, none⟩ 1 (stC s (.slice A1 s.exprs.length c1) (.slice A2 s.body.length c2) (.slice A3 s.els.length c3)) rfl rfl HNw.out one6 (by omega) (by unfold maxLen; omega) hsz ?_; intro v6 w6 ho6 hg6 hv6)
      go_roundw
      case rel =>
       obtain ⟨O6, B6⟩ := OwnS.grown (k := ⟨.slice A1 s.exprs.length c1, .slice A2 s.body.length c2, .slice A3 s.els.length c3⟩) hks HKd.out HO.out ho6 hg6 hv6 HAp.out hsz
       obtain ⟨A6, c6, hA6⟩ := O6.shape
       have st6 : Rs w6 R S (p ts1).unit := H5.out.1.keepB fun q hq => B6.block q (by have := HR.out; omega)
       have hq := HQ.out
       cases hx : p ts1 with
       | bad c0 p0 =>
        rw [hx] at st6
        refine ⟨l ++ [s], A6, c6, .bad c0 p0, 0, hA6, st6, hA6 ▸ O6, H5.out.2.1.low B6 (Nat.le_refl _), fun u ts h => (by cases h), fun u ts h => (by cases h), ?_⟩
        rw [hq.2.2.2.2.2]
        show moreS S.z p f l ts1 = _
        rw [moreS_zero_bad HN.out hx]
        rfl
       | ok a r0 =>
        rw [hx] at st6
        have ht := HT.out _ _ _ hx
        have h4 := hq.2.2.2.1 u1 ts1 rfl
        have h5 := hq.2.2.2.2.1 u1 ts1 rfl
        have h6 := hq.2.2.2.2.2
        obtain ⟨f', rfl⟩ : ∃ f', f = f' + 1 := ⟨f - 1, by omega⟩
        refine ⟨l ++ [s], A6, c6, .ok () r0, f', hA6, st6, hA6 ▸ O6, H5.out.2.1.low B6 (Nat.le_refl _), fun u ts h => ?_, fun u ts h => ?_, ?_⟩
        ·injection h with _ h
         rw [← h]
         omega
        ·injection h with _ h
         rw [← h]
         simp
         omega
        ·rw [h6]
         show moreS S.z p (f' + 1) l ts1 = moreS S.z p f' (l ++ [s]) r0
         rw [moreS_false HN.out, hx, H5.out.2.2 a r0 hx]
         rfl
      case measure =>
       obtain ⟨O6, B6⟩ := OwnS.grown (k := ⟨.slice A1 s.exprs.length c1, .slice A2 s.body.length c2, .slice A3 s.els.length c3⟩) hks HKd.out HO.out ho6 hg6 hv6 HAp.out hsz
       have st6 : Rs w6 R S (p ts1).unit := H5.out.1.keepB fun q hq => B6.block q (by have := HR.out; omega)
       rw [HMs.out]
       cases hx : p ts1 with
       | bad c0 p0 =>
        rw [hx] at st6
        rw [measB_bad st6]
        omega
       | ok a r0 =>
        rw [hx] at st6
        have ht := HT.out _ _ _ hx
        rw [measB_ok st6]
        omega
end
section
open Go.RowKit
set_option maxRecDepth 100000
set_option linter.unusedSimpArgs false
set_option linter.unusedVariables false
set_option maxHeartbeats 1600000 in
theorem block_bad (R : Nat) (S : Src) (d : Nat) (c p : Nat) (w : World) (ha : Rs w R S (.bad c p)) : Calls Tryz.prog 73 #[.pointer (some ⟨R, 0, none⟩), .int .i64 d] w (RGot R S (QB w.heap.size) w (.bad c p : Res (List St))) := by
 have HA := Lib.hid ha
 have K := Lib.hid (rmust R S _ [123] ⟨#[123]⟩ w ha (by kernel_rfl) (by unfold Byn; decide))
 obtain ⟨hne, i, hg⟩ := ha
 obtain ⟨_, _, c2, _, _⟩ := hg.cells
 have q1 : (((c : Nat) : Int) == 0) = false := by rw [beq_eq_false_iff_ne]; omega
 clear hne hg
 go_enter Tryz.func73, Tryz.ntmps73
 go_wp2_with fail
 (with_reducible refine K.out.mono ?_)
 clear K
 rintro x w1 ⟨rfl, h1, h2⟩
 have HG : Hid (Rs w1 R S (.bad c p) ∧ Moves R w w1) := ⟨h2, h1⟩
 clear h1 h2 c2
 go_wp2
 go_loopw [5] (fun V wr => V = .slice none 0 0 ∧ Hid (Rs wr R S (.bad c p) ∧ Moves R w wr)) (fun _ _ => 0)
 case atStart => exact ⟨rfl, HG.out⟩
 case round =>
  obtain ⟨rfl, HQ⟩ := hrel
  have K := Lib.hid (rmust R S _ [125] ⟨#[125]⟩ wr HQ.out.1 (by kernel_rfl) (by unfold Byn; decide))
  obtain ⟨hne, i, hg⟩ := HQ.out.1
  obtain ⟨_, _, c2, _, _⟩ := hg.cells
  clear hne hg
  go_wp2_with fail
  (with_reducible refine K.out.mono ?_)
  clear K
  rintro x w2 ⟨rfl, h1, h2⟩
  have HF : Hid (Rs w2 R S (.bad c p) ∧ Moves R w w2) := ⟨h2, HQ.out.2.trans h1⟩
  clear h1 h2
  go_wp2
  go_ret
  exact ⟨HF.out.2, ⟨[], _, rfl, StsC.nothing _ _, fun a r h => (by cases h)⟩, HF.out.1⟩
end
end Go.Proofs.YtcilgkdnjgmogaaGreatDoor
