/- The document's own reading of a text. -/
import Derived.Test.YtcilgkdnjgmogaaGreatDoorNT
import Derived.Test.YtcilgkdnjgmogaaGreatDoorNG
import Derived.Deep.CutBlock
import Derived.StillTailTactics
namespace Go.Proofs.YtcilgkdnjgmogaaGreatDoor
open Go.RowKit
set_option maxRecDepth 100000
set_option linter.unusedSimpArgs false
set_option linter.unusedVariables false
theorem rowF_slice {w : World} {D : Nat → Prop} {n : Nat} {xs : List Value} {k : Value} (h : RowF w D n xs k) : ∃ A c, k = .slice A n c ∧ True := by
 obtain ⟨A, c, e, _⟩ := h
 exact ⟨A, c, e, trivial⟩
def ApartF (lo : Nat) (U : Value) (w : World) (f : Fu) (k : Two) : Prop := FuK w (fun b => (lo ≤ b ∧ some b ≠ U.ownBlock) ∧ b < w.heap.size) f k
theorem ApartF.moves {R lo : Nat} {U : Value} {w w' : World} {f : Fu} {k : Two} (h : ApartF lo U w f k) (hm : Moves R w w') (hR : R < lo) : ApartF lo U w' f k :=
 (FuK.same h (hm.same fun q hq => ⟨hq.2, by omega⟩)).more fun q hq => ⟨hq.1, Nat.lt_of_lt_of_le hq.2 hm.size⟩
theorem PgC.apart {R : Nat} {S : Src} {w : World} {L G lo : Nat} {l : List Fu} {X : Value} {σ : Res Unit} {wr w' : World} {f : Fu} {k : Two} (h : PgC R S w L G lo l X σ wr) (hk : FuK w' (Rng wr.heap.size w'.heap.size) f k) : ApartF lo X w' f k := by
 obtain ⟨ks, _, ho, _⟩ := h.own
 exact hk.more fun q hq => ⟨⟨Nat.le_trans h.lo hq.1, fun e => by have h1 := (ho.lt q e.symm).2; have h2 : wr.heap.size ≤ q := hq.1; omega⟩, hq.2⟩
theorem ret_parseR (tmps : Array Value) (w : World) (p : Nat) (V : Value) (x y : Int) (h2 : tmps.getD 2 undef = .pointer (some ⟨p, 0, none⟩)) (h3 : tmps.getD 3 undef = .int .i64 x) (h4 : tmps.getD 4 undef = .int .i64 y) (hV : VarAt w p [V]) :
  (results Tryz.f13 tmps).run Tryz.prog w = .ok (.tuple #[.agg #[V], .int .i64 x, .int .i64 y]) w := by
 have h2' : tmps[2]?.getD undef = .pointer (some ⟨p, 0, none⟩) := by simpa using h2
 have h3' : tmps[3]?.getD undef = .int .i64 x := by simpa using h3
 have h4' : tmps[4]?.getD undef = .int .i64 y := by simpa using h4
 have c0 := (hV.cell 0 _ rfl).1
 simp [results, Tryz.results13, h2', h3', h4', asAddr, go_sem, c0]
set_option maxHeartbeats 1600000 in
theorem refParse (A : Option Addr) (l : List Nat) (c : Nat) (w : World) (hc : l.length ≤ c) (hcm : c ≤ maxLen) (hl : Lies w w.heap.size A c (bts l)) (hy : Byn l) :
  Calls Tryz.prog 13 #[.slice A l.length c] w (ParseO w (parsed l)) := by
 have hcm' := hcm
 unfold maxLen at hcm'
 have b0 := below_alloc w (.cells #[.slice none 0 0] 26)
 have n0 := heap_alloc_new w (.cells #[.slice none 0 0] 26)
 have s0 : (w.alloc (.cells #[.slice none 0 0] 26)).heap.size = w.heap.size + 1 := by simp
 have K := Lib.hid (refLex A l c _ hc hcm ((hl.below b0).more b0.size) hy)
 have HB := Lib.hid b0
 have HZ : Hid ((w.alloc (.cells #[.slice none 0 0] 26)).heap[w.heap.size]? = some pgZ) := n0
 have HS0 := Lib.hid s0
 have HY := Lib.hid hy
 clear hl hy b0 n0 s0 hcm
 go_enter Tryz.func13, Tryz.ntmps13
 go_wp2_with fail
 generalize w.alloc (.cells #[.slice none 0 0] 26) = w0 at *
 (with_reducible refine K.out.mono ?_)
 clear K
 rintro x w1 ⟨v, rfl, hown, hb1⟩
 obtain ⟨Av, cv, rfl⟩ := own_shape hown
 have HB1 := Lib.hid hb1
 have HO := Lib.hid hown
 clear hown hb1
 by_cases herr : (lexed l).err = 0
 ·have hne : ((((lexed l).err : Nat) : Int) != 0) = false := by rw [herr]; rfl
  have HP := Lib.hid (parsed_of herr)
  have hmany := lexed_many l
  have HNm := Lib.hid (lexed_names HY.out)
  have HSrc : Hid (∃ S : Src, S.all = (lexed l).toks ∧ S.z = l.length ∧ S.V = .slice Av (lexed l).toks.length cv ∧ S.Ok w1 w1.heap.size) := own_src HO.out (fun t ht => (HNm.out t ht).1) (Nat.le_refl _)
  clear herr
  go_upto_block 0 with fail
  obtain ⟨S, hS1, hS2, hS3, hS4⟩ := HSrc.out
  obtain ⟨R, hR⟩ : ∃ R, R = w1.heap.size := ⟨_, rfl⟩
  have hsmS : S.all.length ≤ 4096 := by rw [hS1]; omega
  have HC0 : Hid (PgC R S w (R + 1) w.heap.size (R + 2) [] (.slice none 0 0) (.ok () S.all) ((w1.alloc (.cells #[.slice Av (lexed l).toks.length cv, .int .i64 0, .int .i64 0, .int .i64 0, .int .i64 l.length] 83)).alloc (.cells #[.slice none 0 0] 26))) := by
   have h1 := HS0.out
   have h2 := HB1.out.size
   have ba := below_alloc w1 (.cells #[.slice Av (lexed l).toks.length cv, .int .i64 0, .int .i64 0, .int .i64 0, .int .i64 l.length] 83)
   have na := heap_alloc_new w1 (.cells #[.slice Av (lexed l).toks.length cv, .int .i64 0, .int .i64 0, .int .i64 0, .int .i64 l.length] 83)
   have sa : (w1.alloc (.cells #[.slice Av (lexed l).toks.length cv, .int .i64 0, .int .i64 0, .int .i64 0, .int .i64 l.length] 83)).heap.size = w1.heap.size + 1 := by simp
   have bb := below_alloc (w1.alloc (.cells #[.slice Av (lexed l).toks.length cv, .int .i64 0, .int .i64 0, .int .i64 0, .int .i64 l.length] 83)) (.cells #[.slice none 0 0] 26)
   have nb := heap_alloc_new (w1.alloc (.cells #[.slice Av (lexed l).toks.length cv, .int .i64 0, .int .i64 0, .int .i64 0, .int .i64 l.length] 83)) (.cells #[.slice none 0 0] 26)
   have sb : ((w1.alloc (.cells #[.slice Av (lexed l).toks.length cv, .int .i64 0, .int .i64 0, .int .i64 0, .int .i64 l.length] 83)).alloc (.cells #[.slice none 0 0] 26)).heap.size = w1.heap.size + 2 := by simp
   have keep : ∀ k, k < w1.heap.size → ((w1.alloc (.cells #[.slice Av (lexed l).toks.length cv, .int .i64 0, .int .i64 0, .int .i64 0, .int .i64 l.length] 83)).alloc (.cells #[.slice none 0 0] 26)).heap[k]? = w1.heap[k]? := fun k hk => (bb.block k (by omega)).trans (ba.block k hk)
   subst hR
   refine ⟨⟨0, rfl, hS4.of keep, Nat.zero_le _, ?_⟩, VarAt.block (cs := [.slice none 0 0]) (T := 26) (by rw [← sa]; exact nb), ⟨[], rfl, World.ownsRow_nil _ _ _ _, fun i f k h => by simp at h⟩, ((HB.out.trans (HB1.out.mono (by omega))).trans (ba.mono (by omega))).trans (bb.mono (by omega)), by rw [keep _ (by omega), HB1.out.block _ (by omega)]; exact HZ.out, ⟨by omega, by omega⟩, by omega, ⟨Nat.le_refl _, by omega⟩, by omega⟩
   rw [bb.block _ (by omega), na]
   unfold rgO
   rw [hS3, hS2]
   rfl
  obtain ⟨m, hm⟩ : ∃ m, m = programP S.z S.all := ⟨_, rfl⟩
  have HM0 := Lib.hid hm
  have HPm : Hid (parsed l = parsedOf m) := by show _ = _; rw [HP.out, hm, hS1, hS2]
  have HL : Hid (PgS R S w (R + 1) w.heap.size (R + 2) m ((w1.alloc (.cells #[.slice Av (lexed l).toks.length cv, .int .i64 0, .int .i64 0, .int .i64 0, .int .i64 l.length] 83)).alloc (.cells #[.slice none 0 0] 26))) :=
   ⟨[], none, 0, .ok () S.all, S.all.length, HC0.out, fun u ts h => by injection h with _ h; rw [← h]; exact Nat.le_refl _, fun u ts h => by injection h with _ h; rw [← h]; simpa using hsmS, hm⟩
  have HSm := Lib.hid hsmS
  clear hm hsmS hS1 hS2 hS3 hS4 HC0
  rw [← hR]
  have HRr := Lib.hid hR
  clear HSrc hmany hR
  generalize (w1.alloc (.cells #[.slice Av (lexed l).toks.length cv, .int .i64 0, .int .i64 0, .int .i64 0, .int .i64 (l.length : Int)] 83)).alloc (.cells #[.slice none 0 0] 26) = w2 at *
  go_cut [] (fun wx => PgE R S w (R + 1) w.heap.size (R + 2) m wx)
  case first =>
   go_wp2_with fail
   go_loopw [] (fun wr => PgS R S w (R + 1) w.heap.size (R + 2) m wr) (fun wr => measR R S wr)
   case atStart => exact HL.out
   case round =>
    obtain ⟨l, A, c, σ', f, hC, hf, hs4, hm⟩ := hrel
    have HC := Lib.hid hC
    have HF := Lib.hid hf
    have HS4 := Lib.hid hs4
    have HM := Lib.hid hm
    have HMv : Hid (∀ n, PgC R S w (R + 1) w.heap.size (R + 2) l (.slice A l.length c) σ' (wr.drewN n)) := fun n => hC.moves (Moves.of_below (below_drewN (Below.refl wr.heap.size wr) n) (Nat.le_refl _)) (hC.st.below (below_drewN (Below.refl wr.heap.size wr) n) (Nat.le_refl _))
    clear hC hf hs4 hm HL
    cases σ' with
    | bad c0 p0 =>
     obtain ⟨hne', i, hg⟩ := HC.out.st
     obtain ⟨_, _, c2, _, _⟩ := hg.cells
     have q1 : (((c0 : Nat) : Int) == 0) = false := by rw [beq_eq_false_iff_ne]; omega
     have HE : Hid (∀ n, PgE R S w (R + 1) w.heap.size (R + 2) m (wr.drewN n)) := fun n => ⟨l, A, c, _, HMv.out n, fun u ts h => (by cases h), by rw [HM.out, prog_exit (fun u ts h => by cases h)]⟩
     clear hne' hg
     go_upto_region 6 with fail
     go_quiet (fail)
     go_wp2
     go_meet
     exact HE.out _
    | ok u1 ts1 =>
     obtain ⟨i, hts, hg⟩ := HC.out.st
     obtain ⟨c0, c1, c2, _, _⟩ := hg.cells
     obtain ⟨m1, m2⟩ := hg.len
     unfold Src.V at c0
     have hle := hg.2.1
     by_cases hi : i < S.all.length
     ·have hne' : ts1 ≠ [] := by rw [hts]; intro h; have := List.drop_eq_nil_iff.1 h; omega
      have HMx : Hid (m = (funcP S.z ts1).bind fun x r => moreF S.z (f - 1) (l ++ [x]) r) := by show _ = _; rw [HM.out]; exact prog_round hne' (HF.out u1 ts1 rfl)
      have HMeas : Hid (measR R S wr = 2 * ts1.length + 2) := meas_ok HC.out.st
      have HB9 : Hid ((l.length + 1) * 80 ≤ 140737488355328 ∧ l.length + 1 ≤ maxLen) := by have := HS4.out u1 ts1 rfl; exact ⟨by omega, by unfold maxLen; omega⟩
      clear hts hg hne' HM
      go_upto_region 6 with fail
      go_quiet (fail)
      have HC7 := Lib.hid (HMv.out nq)
      clear c0 c1 c2 m1 m2 hle hi HMv HC
      generalize wr.drewN nq = w7 at *
      go_wp2_with fail
      have HCd := Lib.hid (HC7.out.moves (w' := w7.drew) ⟨rfl, rfl, rfl, Nat.le_refl _, fun _ _ _ => rfl⟩ (HC7.out.st.below ((Below.refl w7.heap.size w7).drew) (Nat.le_refl _)))
      have K0 : Hid (∀ w1, Rs w1 R S (.ok u1 ts1) → Calls Tryz.prog 37 #[.pointer (some ⟨R, 0, none⟩)] w1 (RGot R S (QFu w1.heap.size) w1 (funcP S.z ts1))) := fun w1 h => rfunction R S HSm.out _ w1 h
      have hRlo : R < R + 2 := by omega
      obtain ⟨i0, hi, hz0, hz1, hz2⟩ := info_parts info47
      refine wp_region_held_drew (S := fun _ => True) (by kernel_rfl) trivial (fun hHeld => ?_)
      refine wpAnyH_take (i := 0) (v := ?vq0) rfl (by kernel_rfl) (by kernel_rfl) (by kernel_rfl) (fun _ _ _ h => h) (Or.inl ⟨by kernel_rfl, ?yq0⟩) (by assumption) ?rq0
      case yq0 => (intro w hSw; (try dsimp only at hSw); go_simp; (try with_reducible rfl))
      try simp only [Act.put, List.getElem_toArray, List.getElem_cons_zero, List.getElem_cons_succ, List.setIfInBounds_toArray, List.set_cons_zero, List.set_cons_succ]
      refine wpAnyH_take (i := 2) (v := ?vq2) rfl (by kernel_rfl) (by kernel_rfl) (by kernel_rfl) (fun _ _ _ h => h) (Or.inl ⟨by kernel_rfl, ?yq2⟩) (by assumption) ?rq2
      case yq2 => (intro w hSw; (try dsimp only at hSw); go_simp; (try with_reducible rfl))
      try simp only [Act.put, List.getElem_toArray, List.getElem_cons_zero, List.getElem_cons_succ, List.setIfInBounds_toArray, List.set_cons_zero, List.set_cons_succ]
      generalize w7.drew = wd at *
      refine wpAnyH_ready (rs := [1, 3]) (by kernel_rfl) (by simp) ?_
      refine AllReadyH.cons rfl (fun K hK => ?_) (AllReadyH.cons rfl (fun K hK => ?_) AllReadyH.nil)
      ·have hce := (HCd.out.va.cell 0 _ rfl).1
       go_simp
       clear hce
       refine hK.out _ _ trivial (fun hHeld => ?_)
       clear hK K
       refine wpAnyH_ready (rs := [3]) (by kernel_rfl) (by simp) ?_
       refine AllReadyH.cons rfl (fun K hK => ?_) AllReadyH.nil
       go_simp
       with_reducible refine (K0.out wd HCd.out.st).mono ?_
       rintro x wc2 ⟨hm, ⟨v, xv, rfl, ⟨⟨kp, kb⟩, rfl, hk1, hk2⟩, hv⟩, r2⟩
       dsimp only at hk1 hk2
       obtain ⟨Ap, cp, rfl, hkp⟩ := rowF_slice hk1
       obtain ⟨Ab, cb, rfl⟩ := stsC_slice hk2
       have C2 := Lib.hid (HCd.out.moves hm r2)
       have Y2 := Lib.hid (HCd.out.apart (k := ⟨.slice Ap v.params.length cp, .slice Ab v.body.length cb⟩) ⟨hk1, hk2⟩)
       have HV := Lib.hid hv
       clear hm r2 hk1 hk2 hv hkp
       simp only [fuC]
       refine hK.out _ _ trivial (fun hHeld => ?_)
       clear hK K
       refine wpAnyH_ready (rs := [4]) (by kernel_rfl) (by simp) ?_
       refine AllReadyH.cons rfl (fun K hK => ?_) AllReadyH.nil
       go_simp
       have mz := Moves.of_below (R := R) (below_alloc wc2 (.cells #[.string (strN v.name), .slice Ap v.params.length cp, .int .i64 v.result, .slice Ab v.body.length cb, .int .i64 v.place] 69)) (Nat.le_refl _)
       have C3 := Lib.hid (C2.out.moves mz (C2.out.st.below (below_alloc wc2 (.cells #[.string (strN v.name), .slice Ap v.params.length cp, .int .i64 v.result, .slice Ab v.body.length cb, .int .i64 v.place] 69)) (Nat.le_refl _)))
       have Z3 := Lib.hid (heap_alloc_new wc2 (.cells #[.string (strN v.name), .slice Ap v.params.length cp, .int .i64 v.result, .slice Ab v.body.length cb, .int .i64 v.place] 69))
       have Y3 := Lib.hid (ApartF.moves Y2.out mz hRlo)
       clear mz
       generalize wc2.alloc (.cells #[.string (strN v.name), .slice Ap v.params.length cp, .int .i64 v.result, .slice Ab v.body.length cb, .int .i64 v.place] 69) = wb3 at *
       refine hK.out _ _ trivial (fun hHeld => ?_)
       clear hK K
       obtain ⟨ks, hks, hown, hkid⟩ := C3.out.own
       have HO := Lib.hid hown
       have HKd := Lib.hid hkid
       clear hown hkid
       have HNw : Hid (∀ (j : Nat) (u : Value), (fuC v (.slice Ap v.params.length cp) (.slice Ab v.body.length cb))[j]? = some u → wb3.cell? ((Addr.mk (wc2.heap.size) 0 none).add j) = some u) := fun j u hu => by
        rw [Addr.add_mid]
        exact range_of (cs := (fuC v (.slice Ap v.params.length cp) (.slice Ab v.body.length cb))) Z3.out j u hu
       refine wpAnyH_ready (rs := [5]) (by kernel_rfl) (by simp) ?_
       refine AllReadyH.cons rfl (fun K hK => ?_) AllReadyH.nil
       rw [if_pos (by rfl)]
       refine wp_append_one _ (.tmp 44) (.tmp 47) 24 rfl (R + 2) 69 i0 _ 5 80 Tryz.underlying24 hi hz0 hz1 hz2 rfl (by omega) _ _ _ rfl HO.out ⟨wc2.heap.size, 0, none⟩ 1 (fuC v (.slice Ap v.params.length cp) (.slice Ab v.body.length cb)) rfl rfl HNw.out one5f HB9.out.1 HB9.out.2 C3.out.lo ?_
       intro v' w' ho hg hvv
       obtain ⟨A', c', hA'⟩ := own_shape ho
       subst hA'
       have M4 := Lib.hid (C3.out.more hks HO.out HKd.out Y3.out ho hg hvv).1
       have hcL := C3.out.va.of (C3.out.more hks HO.out HKd.out Y3.out ho hg hvv).2
       have hce := (hcL.cell 0 _ rfl).1
       have hcf := (hcL.cell 0 _ rfl).2
       clear ho hg hvv HO HKd HNw hcL
       refine hK.out _ _ trivial (fun hHeld => ?_)
       clear hK K
       simp only [Act.put, List.setIfInBounds_toArray, List.set_cons_zero, List.set_cons_succ]
       refine wpAnyH_take (i := 6) (v := ?vt4) rfl (by kernel_rfl) (by kernel_rfl) (by kernel_rfl) (fun _ _ _ h => h) (Or.inl ⟨by kernel_rfl, ?yt4⟩) (by assumption) ?rt4
       case yt4 => (intro w hSw; (try dsimp only at hSw); go_simp; (try with_reducible rfl))
       try simp only [Act.put, List.getElem_toArray, List.getElem_cons_zero, List.getElem_cons_succ, List.setIfInBounds_toArray, List.set_cons_zero, List.set_cons_succ]
       refine wpAnyH_ready (rs := [7]) (by kernel_rfl) (by simp) ?_
       refine AllReadyH.cons rfl (fun K hK => ?_) AllReadyH.nil
       go_simp
       refine hK.out _ _ trivial (fun hHeld => ?_)
       clear hK K hce hcf
       refine wpAnyH_done (by kernel_rfl) ?_ _
       go_wp2
       go_roundw
       case rel =>
        have hst := M4.out
        cases hx : funcP S.z ts1 with
        | bad c0 p0 =>
         rw [hx] at hst
         refine ⟨l ++ [v], A', c', .bad c0 p0, 0, by rw [show (l ++ [v]).length = l.length + 1 by simp]; exact hst, fun u0 t0 h => (by cases h), fun u0 t0 h => (by cases h), ?_⟩
         rw [HMx.out, hx]
         rfl
        | ok a r0 =>
         rw [hx] at hst
         have := takes_func S.z _ _ _ hx
         refine ⟨l ++ [v], A', c', .ok () r0, f - 1, by rw [show (l ++ [v]).length = l.length + 1 by simp]; exact hst, fun u0 t0 h => ?_, fun u0 t0 h => ?_, ?_⟩
         ·injection h with _ h
          rw [← h]
          have := HF.out u1 ts1 rfl
          omega
         ·injection h with _ h
          rw [← h]
          have := HS4.out u1 ts1 rfl
          simp
          omega
         ·rw [HMx.out, hx, HV.out a r0 hx]
          rfl
       case measure =>
        have hst := M4.out.st
        have hmm := HMeas.out
        cases hx : funcP S.z ts1 with
        | bad c0 p0 =>
         rw [hx] at hst
         rw [meas_bad hst]
         omega
        | ok a r0 =>
         rw [hx] at hst
         rw [meas_ok hst]
         have := takes_func S.z _ _ _ hx
         omega
      ·go_simp
       with_reducible refine (K0.out wd HCd.out.st).mono ?_
       rintro x wc5 ⟨hm, ⟨v, xv, rfl, ⟨⟨kp, kb⟩, rfl, hk1, hk2⟩, hv⟩, r2⟩
       dsimp only at hk1 hk2
       obtain ⟨Ap, cp, rfl, hkp⟩ := rowF_slice hk1
       obtain ⟨Ab, cb, rfl⟩ := stsC_slice hk2
       have C5 := Lib.hid (HCd.out.moves hm r2)
       have Y5 := Lib.hid (HCd.out.apart (k := ⟨.slice Ap v.params.length cp, .slice Ab v.body.length cb⟩) ⟨hk1, hk2⟩)
       have HV := Lib.hid hv
       clear hm r2 hk1 hk2 hv hkp
       simp only [fuC]
       refine hK.out _ _ trivial (fun hHeld => ?_)
       clear hK K
       refine wpAnyH_ready (rs := [1, 4]) (by kernel_rfl) (by simp) ?_
       refine AllReadyH.cons rfl (fun K hK => ?_) (AllReadyH.cons rfl (fun K hK => ?_) AllReadyH.nil)
       ·have hce := (C5.out.va.cell 0 _ rfl).1
        go_simp
        clear hce
        refine hK.out _ _ trivial (fun hHeld => ?_)
        clear hK K
        refine wpAnyH_ready (rs := [4]) (by kernel_rfl) (by simp) ?_
        refine AllReadyH.cons rfl (fun K hK => ?_) AllReadyH.nil
        go_simp
        have mz := Moves.of_below (R := R) (below_alloc wc5 (.cells #[.string (strN v.name), .slice Ap v.params.length cp, .int .i64 v.result, .slice Ab v.body.length cb, .int .i64 v.place] 69)) (Nat.le_refl _)
        have C7 := Lib.hid (C5.out.moves mz (C5.out.st.below (below_alloc wc5 (.cells #[.string (strN v.name), .slice Ap v.params.length cp, .int .i64 v.result, .slice Ab v.body.length cb, .int .i64 v.place] 69)) (Nat.le_refl _)))
        have Z7 := Lib.hid (heap_alloc_new wc5 (.cells #[.string (strN v.name), .slice Ap v.params.length cp, .int .i64 v.result, .slice Ab v.body.length cb, .int .i64 v.place] 69))
        have Y7 := Lib.hid (ApartF.moves Y5.out mz hRlo)
        clear mz
        generalize wc5.alloc (.cells #[.string (strN v.name), .slice Ap v.params.length cp, .int .i64 v.result, .slice Ab v.body.length cb, .int .i64 v.place] 69) = wb7 at *
        refine hK.out _ _ trivial (fun hHeld => ?_)
        clear hK K
        obtain ⟨ks, hks, hown, hkid⟩ := C7.out.own
        have HO := Lib.hid hown
        have HKd := Lib.hid hkid
        clear hown hkid
        have HNw : Hid (∀ (j : Nat) (u : Value), (fuC v (.slice Ap v.params.length cp) (.slice Ab v.body.length cb))[j]? = some u → wb7.cell? ((Addr.mk (wc5.heap.size) 0 none).add j) = some u) := fun j u hu => by
         rw [Addr.add_mid]
         exact range_of (cs := (fuC v (.slice Ap v.params.length cp) (.slice Ab v.body.length cb))) Z7.out j u hu
        refine wpAnyH_ready (rs := [5]) (by kernel_rfl) (by simp) ?_
        refine AllReadyH.cons rfl (fun K hK => ?_) AllReadyH.nil
        rw [if_pos (by rfl)]
        refine wp_append_one _ (.tmp 44) (.tmp 47) 24 rfl (R + 2) 69 i0 _ 5 80 Tryz.underlying24 hi hz0 hz1 hz2 rfl (by omega) _ _ _ rfl HO.out ⟨wc5.heap.size, 0, none⟩ 1 (fuC v (.slice Ap v.params.length cp) (.slice Ab v.body.length cb)) rfl rfl HNw.out one5f HB9.out.1 HB9.out.2 C7.out.lo ?_
        intro v' w' ho hg hvv
        obtain ⟨A', c', hA'⟩ := own_shape ho
        subst hA'
        have M8 := Lib.hid (C7.out.more hks HO.out HKd.out Y7.out ho hg hvv).1
        have hcL := C7.out.va.of (C7.out.more hks HO.out HKd.out Y7.out ho hg hvv).2
        have hce := (hcL.cell 0 _ rfl).1
        have hcf := (hcL.cell 0 _ rfl).2
        clear ho hg hvv HO HKd HNw hcL
        refine hK.out _ _ trivial (fun hHeld => ?_)
        clear hK K
        simp only [Act.put, List.setIfInBounds_toArray, List.set_cons_zero, List.set_cons_succ]
        refine wpAnyH_take (i := 6) (v := ?vt8) rfl (by kernel_rfl) (by kernel_rfl) (by kernel_rfl) (fun _ _ _ h => h) (Or.inl ⟨by kernel_rfl, ?yt8⟩) (by assumption) ?rt8
        case yt8 => (intro w hSw; (try dsimp only at hSw); go_simp; (try with_reducible rfl))
        try simp only [Act.put, List.getElem_toArray, List.getElem_cons_zero, List.getElem_cons_succ, List.setIfInBounds_toArray, List.set_cons_zero, List.set_cons_succ]
        refine wpAnyH_ready (rs := [7]) (by kernel_rfl) (by simp) ?_
        refine AllReadyH.cons rfl (fun K hK => ?_) AllReadyH.nil
        go_simp
        refine hK.out _ _ trivial (fun hHeld => ?_)
        clear hK K hce hcf
        refine wpAnyH_done (by kernel_rfl) ?_ _
        go_wp2
        go_roundw
        case rel =>
         have hst := M8.out
         cases hx : funcP S.z ts1 with
         | bad c0 p0 =>
          rw [hx] at hst
          refine ⟨l ++ [v], A', c', .bad c0 p0, 0, by rw [show (l ++ [v]).length = l.length + 1 by simp]; exact hst, fun u0 t0 h => (by cases h), fun u0 t0 h => (by cases h), ?_⟩
          rw [HMx.out, hx]
          rfl
         | ok a r0 =>
          rw [hx] at hst
          have := takes_func S.z _ _ _ hx
          refine ⟨l ++ [v], A', c', .ok () r0, f - 1, by rw [show (l ++ [v]).length = l.length + 1 by simp]; exact hst, fun u0 t0 h => ?_, fun u0 t0 h => ?_, ?_⟩
          ·injection h with _ h
           rw [← h]
           have := HF.out u1 ts1 rfl
           omega
          ·injection h with _ h
           rw [← h]
           have := HS4.out u1 ts1 rfl
           simp
           omega
          ·rw [HMx.out, hx, HV.out a r0 hx]
           rfl
        case measure =>
         have hst := M8.out.st
         have hmm := HMeas.out
         cases hx : funcP S.z ts1 with
         | bad c0 p0 =>
          rw [hx] at hst
          rw [meas_bad hst]
          omega
         | ok a r0 =>
          rw [hx] at hst
          rw [meas_ok hst]
          have := takes_func S.z _ _ _ hx
          omega
       ·go_simp
        have mz := Moves.of_below (R := R) (below_alloc wc5 (.cells #[.string (strN v.name), .slice Ap v.params.length cp, .int .i64 v.result, .slice Ab v.body.length cb, .int .i64 v.place] 69)) (Nat.le_refl _)
        have C9 := Lib.hid (C5.out.moves mz (C5.out.st.below (below_alloc wc5 (.cells #[.string (strN v.name), .slice Ap v.params.length cp, .int .i64 v.result, .slice Ab v.body.length cb, .int .i64 v.place] 69)) (Nat.le_refl _)))
        have Z9 := Lib.hid (heap_alloc_new wc5 (.cells #[.string (strN v.name), .slice Ap v.params.length cp, .int .i64 v.result, .slice Ab v.body.length cb, .int .i64 v.place] 69))
        have Y9 := Lib.hid (ApartF.moves Y5.out mz hRlo)
        clear mz
        generalize wc5.alloc (.cells #[.string (strN v.name), .slice Ap v.params.length cp, .int .i64 v.result, .slice Ab v.body.length cb, .int .i64 v.place] 69) = wb9 at *
        refine hK.out _ _ trivial (fun hHeld => ?_)
        clear hK K
        refine wpAnyH_ready (rs := [1]) (by kernel_rfl) (by simp) ?_
        refine AllReadyH.cons rfl (fun K hK => ?_) AllReadyH.nil
        have hce := (C9.out.va.cell 0 _ rfl).1
        go_simp
        clear hce
        refine hK.out _ _ trivial (fun hHeld => ?_)
        clear hK K
        obtain ⟨ks, hks, hown, hkid⟩ := C9.out.own
        have HO := Lib.hid hown
        have HKd := Lib.hid hkid
        clear hown hkid
        have HNw : Hid (∀ (j : Nat) (u : Value), (fuC v (.slice Ap v.params.length cp) (.slice Ab v.body.length cb))[j]? = some u → wb9.cell? ((Addr.mk (wc5.heap.size) 0 none).add j) = some u) := fun j u hu => by
         rw [Addr.add_mid]
         exact range_of (cs := (fuC v (.slice Ap v.params.length cp) (.slice Ab v.body.length cb))) Z9.out j u hu
        refine wpAnyH_ready (rs := [5]) (by kernel_rfl) (by simp) ?_
        refine AllReadyH.cons rfl (fun K hK => ?_) AllReadyH.nil
        rw [if_pos (by rfl)]
        refine wp_append_one _ (.tmp 44) (.tmp 47) 24 rfl (R + 2) 69 i0 _ 5 80 Tryz.underlying24 hi hz0 hz1 hz2 rfl (by omega) _ _ _ rfl HO.out ⟨wc5.heap.size, 0, none⟩ 1 (fuC v (.slice Ap v.params.length cp) (.slice Ab v.body.length cb)) rfl rfl HNw.out one5f HB9.out.1 HB9.out.2 C9.out.lo ?_
        intro v' w' ho hg hvv
        obtain ⟨A', c', hA'⟩ := own_shape ho
        subst hA'
        have M11 := Lib.hid (C9.out.more hks HO.out HKd.out Y9.out ho hg hvv).1
        have hcL := C9.out.va.of (C9.out.more hks HO.out HKd.out Y9.out ho hg hvv).2
        have hce := (hcL.cell 0 _ rfl).1
        have hcf := (hcL.cell 0 _ rfl).2
        clear ho hg hvv HO HKd HNw hcL
        refine hK.out _ _ trivial (fun hHeld => ?_)
        clear hK K
        simp only [Act.put, List.setIfInBounds_toArray, List.set_cons_zero, List.set_cons_succ]
        refine wpAnyH_take (i := 6) (v := ?vt11) rfl (by kernel_rfl) (by kernel_rfl) (by kernel_rfl) (fun _ _ _ h => h) (Or.inl ⟨by kernel_rfl, ?yt11⟩) (by assumption) ?rt11
        case yt11 => (intro w hSw; (try dsimp only at hSw); go_simp; (try with_reducible rfl))
        try simp only [Act.put, List.getElem_toArray, List.getElem_cons_zero, List.getElem_cons_succ, List.setIfInBounds_toArray, List.set_cons_zero, List.set_cons_succ]
        refine wpAnyH_ready (rs := [7]) (by kernel_rfl) (by simp) ?_
        refine AllReadyH.cons rfl (fun K hK => ?_) AllReadyH.nil
        go_simp
        refine hK.out _ _ trivial (fun hHeld => ?_)
        clear hK K hce hcf
        refine wpAnyH_done (by kernel_rfl) ?_ _
        go_wp2
        go_roundw
        case rel =>
         have hst := M11.out
         cases hx : funcP S.z ts1 with
         | bad c0 p0 =>
          rw [hx] at hst
          refine ⟨l ++ [v], A', c', .bad c0 p0, 0, by rw [show (l ++ [v]).length = l.length + 1 by simp]; exact hst, fun u0 t0 h => (by cases h), fun u0 t0 h => (by cases h), ?_⟩
          rw [HMx.out, hx]
          rfl
         | ok a r0 =>
          rw [hx] at hst
          have := takes_func S.z _ _ _ hx
          refine ⟨l ++ [v], A', c', .ok () r0, f - 1, by rw [show (l ++ [v]).length = l.length + 1 by simp]; exact hst, fun u0 t0 h => ?_, fun u0 t0 h => ?_, ?_⟩
          ·injection h with _ h
           rw [← h]
           have := HF.out u1 ts1 rfl
           omega
          ·injection h with _ h
           rw [← h]
           have := HS4.out u1 ts1 rfl
           simp
           omega
          ·rw [HMx.out, hx, HV.out a r0 hx]
           rfl
        case measure =>
         have hst := M11.out.st
         have hmm := HMeas.out
         cases hx : funcP S.z ts1 with
         | bad c0 p0 =>
          rw [hx] at hst
          rw [meas_bad hst]
          omega
         | ok a r0 =>
          rw [hx] at hst
          rw [meas_ok hst]
          have := takes_func S.z _ _ _ hx
          omega
     ·have HE : Hid (∀ n, PgE R S w (R + 1) w.heap.size (R + 2) m (wr.drewN n)) := by
       have h0 : ∀ u ts, (Res.ok u1 ts1 : Res Unit) = .ok u ts → ts = [] := fun u ts h => by injection h with _ h; rw [← h, hts]; exact List.drop_eq_nil_of_le (by omega)
       exact fun n => ⟨l, A, c, _, HMv.out n, h0, by rw [HM.out, prog_exit h0]⟩
      clear hts hg
      go_upto_region 6 with fail
      go_quiet (fail)
      go_wp2
      go_meet
      exact HE.out _
  case rest =>
   obtain ⟨l', A', c', σ', hC, h0, hm⟩ := hcut
   generalize wc = w8 at *
   have HC := Lib.hid hC
   have HM := Lib.hid hm
   have H0 := Lib.hid h0
   have HGv : Hid (VarAt w8 w.heap.size [.slice none 0 0]) := VarAt.block (cs := [.slice none 0 0]) (T := 26) hC.z
   have g0 := (HGv.out.cell 0 _ rfl).1
   have g1 := (HGv.out.cell 0 _ rfl).2
   have HLw : Hid (w.heap.size < R ∧ R < R + 1) := ⟨hC.hG.2, Nat.lt_succ_self _⟩
   clear hC hm h0 HL
   cases σ' with
   | bad c0 p0 =>
    obtain ⟨hne', i, hg⟩ := HC.out.st
    obtain ⟨_, _, c2, c3, _⟩ := hg.cells
    have q1 : (((c0 : Nat) : Int) != 0) = true := by rw [bne_iff_ne]; omega
    have HPa : Hid (parsed l = ⟨c0, [], p0⟩) := by show _ = _; rw [HPm.out, HM.out]; rfl
    have HB8 : Hid (Below w.heap.size w w8.drew) := HC.out.mv.drew
    have HD : Hid (∀ u : World, Below w8.heap.size w8 u → u.cell? ⟨R, 2, none⟩ = some (.int .i64 c0) ∧ u.cell? ⟨R, 3, none⟩ = some (.int .i64 p0)) := fun u hu => by
     have h1 := HC.out.lo
     exact ⟨(World.cell?_of_block (a := ⟨R, 2, none⟩) (hu.block R (by omega))).trans c2, (World.cell?_of_block (a := ⟨R, 3, none⟩) (hu.block R (by omega))).trans c3⟩
    clear hne' hg
    go_upto_region 9 with fail
    refine wp_region_held_drew (S := fun u => u.cell? ⟨R, 2, none⟩ = some (.int .i64 c0) ∧ u.cell? ⟨R, 3, none⟩ = some (.int .i64 p0)) (by kernel_rfl) (HD.out _ ((Below.refl w8.heap.size w8).drew)) (fun hHeld => ?_)
    refine wpAnyH_take (i := 0) (v := ?vz0) rfl (by kernel_rfl) (by kernel_rfl) (by kernel_rfl) (fun _ _ _ h => h) (Or.inl ⟨by kernel_rfl, ?yz0⟩) (by assumption) ?rz0
    case yz0 => (intro w hSw; (try dsimp only at hSw); obtain ⟨s1, s2⟩ := hSw; go_simp; (try with_reducible rfl))
    try simp only [Act.put, List.getElem_toArray, List.getElem_cons_zero, List.getElem_cons_succ, List.setIfInBounds_toArray, List.set_cons_zero, List.set_cons_succ]
    refine wpAnyH_take (i := 1) (v := ?vz1) rfl (by kernel_rfl) (by kernel_rfl) (by kernel_rfl) (fun _ _ _ h => h) (Or.inl ⟨by kernel_rfl, ?yz1⟩) (by assumption) ?rz1
    case yz1 => (intro w hSw; (try dsimp only at hSw); obtain ⟨s1, s2⟩ := hSw; go_simp; (try with_reducible rfl))
    try simp only [Act.put, List.getElem_toArray, List.getElem_cons_zero, List.getElem_cons_succ, List.setIfInBounds_toArray, List.set_cons_zero, List.set_cons_succ]
    refine wpAnyH_take (i := 2) (v := ?vz2) rfl (by kernel_rfl) (by kernel_rfl) (by kernel_rfl) (fun _ _ _ h => h) (Or.inl ⟨by kernel_rfl, ?yz2⟩) (by assumption) ?rz2
    case yz2 => (intro w hSw; (try dsimp only at hSw); obtain ⟨s1, s2⟩ := hSw; go_simp; (try with_reducible rfl))
    try simp only [Act.put, List.getElem_toArray, List.getElem_cons_zero, List.getElem_cons_succ, List.setIfInBounds_toArray, List.set_cons_zero, List.set_cons_succ]
    refine wpAnyH_take (i := 3) (v := ?vz3) rfl (by kernel_rfl) (by kernel_rfl) (by kernel_rfl) (fun _ _ _ h => h) (Or.inl ⟨by kernel_rfl, ?yz3⟩) (by assumption) ?rz3
    case yz3 => (intro w hSw; (try dsimp only at hSw); obtain ⟨s1, s2⟩ := hSw; go_simp; (try with_reducible rfl))
    try simp only [Act.put, List.getElem_toArray, List.getElem_cons_zero, List.getElem_cons_succ, List.setIfInBounds_toArray, List.set_cons_zero, List.set_cons_succ]
    refine wpAnyH_take (i := 4) (v := ?vz4) rfl (by kernel_rfl) (by kernel_rfl) (by kernel_rfl) (fun _ _ _ h => h) (Or.inl ⟨by kernel_rfl, ?yz4⟩) (by assumption) ?rz4
    case yz4 => (intro w hSw; (try dsimp only at hSw); obtain ⟨s1, s2⟩ := hSw; go_simp; (try with_reducible rfl))
    try simp only [Act.put, List.getElem_toArray, List.getElem_cons_zero, List.getElem_cons_succ, List.setIfInBounds_toArray, List.set_cons_zero, List.set_cons_succ]
    refine wpAnyH_take (i := 5) (v := ?vz5) rfl (by kernel_rfl) (by kernel_rfl) (by kernel_rfl) (fun _ _ _ h => h) (Or.inl ⟨by kernel_rfl, ?yz5⟩) (by assumption) ?rz5
    case yz5 => (intro w hSw; (try dsimp only at hSw); obtain ⟨s1, s2⟩ := hSw; go_simp; (try with_reducible rfl))
    try simp only [Act.put, List.getElem_toArray, List.getElem_cons_zero, List.getElem_cons_succ, List.setIfInBounds_toArray, List.set_cons_zero, List.set_cons_succ]
    refine wpAnyH_take (i := 6) (v := ?vz6) rfl (by kernel_rfl) (by kernel_rfl) (by kernel_rfl) (fun _ _ _ h => h) (Or.inl ⟨by kernel_rfl, ?yz6⟩) (by assumption) ?rz6
    case yz6 => (intro w hSw; (try dsimp only at hSw); obtain ⟨s1, s2⟩ := hSw; go_simp; (try with_reducible rfl))
    try simp only [Act.put, List.getElem_toArray, List.getElem_cons_zero, List.getElem_cons_succ, List.setIfInBounds_toArray, List.set_cons_zero, List.set_cons_succ]
    refine wpAnyH_take (i := 7) (v := ?vz7) rfl (by kernel_rfl) (by kernel_rfl) (by kernel_rfl) (fun _ _ _ h => h) (Or.inl ⟨by kernel_rfl, ?yz7⟩) (by assumption) ?rz7
    case yz7 => (intro w hSw; (try dsimp only at hSw); obtain ⟨s1, s2⟩ := hSw; go_simp; (try with_reducible rfl))
    try simp only [Act.put, List.getElem_toArray, List.getElem_cons_zero, List.getElem_cons_succ, List.setIfInBounds_toArray, List.set_cons_zero, List.set_cons_succ]
    refine wpAnyH_take (i := 8) (v := ?vz8) rfl (by kernel_rfl) (by kernel_rfl) (by kernel_rfl) (fun _ _ _ h => h) (Or.inl ⟨by kernel_rfl, ?yz8⟩) (by assumption) ?rz8
    case yz8 => (intro w hSw; (try dsimp only at hSw); obtain ⟨s1, s2⟩ := hSw; go_simp; (try with_reducible rfl))
    try simp only [Act.put, List.getElem_toArray, List.getElem_cons_zero, List.getElem_cons_succ, List.setIfInBounds_toArray, List.set_cons_zero, List.set_cons_succ]
    have HGd : Hid (VarAt w8.drew w.heap.size [.slice none 0 0]) := HGv.out.of rfl
    have HWd := Lib.hid (HD.out _ ((Below.refl w8.heap.size w8).drew))
    generalize w8.drew = wd at *
    have HSt : Hid ((wd.setCell ⟨w.heap.size, 0, none⟩ (.slice none 0 0)).cell? ⟨R, 2, none⟩ = some (.int .i64 c0) ∧ (wd.setCell ⟨w.heap.size, 0, none⟩ (.slice none 0 0)).cell? ⟨R, 3, none⟩ = some (.int .i64 p0)) := by
     have h1 := HLw.out.1
     have hw := HWd.out
     exact ⟨(World.cell?_of_block (a := ⟨R, 2, none⟩) (set_other R (by omega))).trans hw.1, (World.cell?_of_block (a := ⟨R, 3, none⟩) (set_other R (by omega))).trans hw.2⟩
    clear g0 g1 c2 c3
    have g0 := (HGd.out.cell 0 _ rfl).1
    have g1 := (HGd.out.cell 0 _ rfl).2
    refine wpAnyH_ready (rs := [9]) (by kernel_rfl) (by simp) ?_
    refine AllReadyH.cons rfl (fun K hK => ?_) AllReadyH.nil
    go_simp
    refine hK.out _ _ HSt.out (fun hHeld => ?_)
    clear hK K g0 g1
    refine wpAnyH_take (i := 10) (v := ?vz10) rfl (by kernel_rfl) (by kernel_rfl) (by kernel_rfl) (fun _ _ _ h => h) (Or.inl ⟨by kernel_rfl, ?yz10⟩) (by assumption) ?rz10
    case yz10 => (intro w hSw; (try dsimp only at hSw); obtain ⟨s1, s2⟩ := hSw; go_simp; (try with_reducible rfl))
    try simp only [Act.put, List.getElem_toArray, List.getElem_cons_zero, List.getElem_cons_succ, List.setIfInBounds_toArray, List.set_cons_zero, List.set_cons_succ]
    refine wpAnyH_take (i := 11) (v := ?vz11) rfl (by kernel_rfl) (by kernel_rfl) (by kernel_rfl) (fun _ _ _ h => h) (Or.inl ⟨by kernel_rfl, ?yz11⟩) (by assumption) ?rz11
    case yz11 => (intro w hSw; (try dsimp only at hSw); obtain ⟨s1, s2⟩ := hSw; go_simp; (try with_reducible rfl))
    try simp only [Act.put, List.getElem_toArray, List.getElem_cons_zero, List.getElem_cons_succ, List.setIfInBounds_toArray, List.set_cons_zero, List.set_cons_succ]
    refine wpAnyH_done (by kernel_rfl) ?_ _
    go_wp2
    refine bodyPost_ret (ret_parseR _ _ w.heap.size (.slice none 0 0) c0 p0 rfl rfl rfl (HGd.out.set 0 _)) rfl ?_
    rw [HPa.out]
    exact ⟨_, rfl, FusC.nothing _ _, HB8.out.trans (set_below.mono (Nat.le_refl _))⟩
   | ok u ts =>
    obtain rfl := H0.out u ts rfl
    obtain ⟨i, _, hg⟩ := HC.out.st
    obtain ⟨_, _, c2, _, _⟩ := hg.cells
    rw [show ((0 : Nat) : Int) = 0 from rfl] at c2
    have HPa : Hid (parsed l = ⟨0, l', 0⟩) := by show _ = _; rw [HPm.out, HM.out]; rfl
    have e0 := (HC.out.va.cell 0 _ rfl).1
    clear hg
    go_wp2
    refine bodyPost_ret (ret_parseR _ _ w.heap.size (.slice A' l'.length c') 0 0 rfl rfl rfl (HGv.out.set 0 _)) rfl ?_
    rw [HPa.out]
    have hg := HC.out.hG
    have hr := HC.out.hR
    have hl := HC.out.hL
    refine ⟨_, rfl, ((HC.out.own.fus).same fun q hq => set_other q (by have := hq.1; omega)).more fun q hq => ⟨by have := hq.1; omega, by rw [set_size]; exact hq.2⟩, HC.out.mv.trans (set_below.mono (Nat.le_refl _))⟩
 ·have hne : ((((lexed l).err : Nat) : Int) != 0) = true := by rw [bne_iff_ne]; omega
  have HP : Hid (parsed l = ⟨(lexed l).err, [], (lexed l).place⟩) := by show _ = _; unfold parsed; rw [if_neg herr]
  have HW : Hid (VarAt w1 w.heap.size [.slice none 0 0] ∧ Below w.heap.size w w1) := by
   have h1 := HS0.out
   have h2 := HB1.out.block w.heap.size (by omega)
   exact ⟨VarAt.block (cs := [.slice none 0 0]) (T := 26) (h2.trans HZ.out), HB.out.trans (HB1.out.mono (by omega))⟩
  have e0 := (HW.out.1.cell 0 _ rfl).1
  have f0 := (HW.out.1.cell 0 _ rfl).2
  clear herr
  generalize (lexed l).err = er at *
  generalize (lexed l).place = pl at *
  go_wp2
  refine bodyPost_ret (ret_parseR _ _ w.heap.size (.slice none 0 0) er pl rfl rfl rfl (HW.out.1.set 0 _)) rfl ?_
  rw [HP.out]
  exact ⟨_, rfl, FusC.nothing _ _, HW.out.2.trans (set_below.mono (Nat.le_refl _))⟩
end Go.Proofs.YtcilgkdnjgmogaaGreatDoor
