/- What the program's reader makes of all the tokens: the document's program. Conditions: the reader and its tokens lie in memory. -/
import Derived.Test.YtoicncfpoklanaaDoorPw
namespace Go.Proofs.YtoicncfpoklanaaDoor
open Go.RowKit
set_option maxRecDepth 100000
set_option linter.unusedSimpArgs false

theorem info47 : (Tryd.prog.info? 47).map (fun i => (i.zero, i.size, i.bytes)) = some (some (.agg #[.string ⟨#[]⟩, .slice none 0 0, .int .i64 0, .slice none 0 0, .int .i64 0]), 5, 80) := by kernel_rfl
theorem info26s : (Tryd.prog.info? 26).map (·.size) = some 1 := by kernel_rfl
theorem one5f {a b : Int} {s : ByteArray} {A1 A2 : Option Addr} {n1 m1 n2 m2 : Nat} : ∀ u ∈ [Value.string s, .slice A1 n1 m1, .int .i64 a, .slice A2 n2 m2, .int .i64 b], u.oneCell' = true := by
  intro u hu
  simp at hu
  rcases hu with rfl | rfl | rfl | rfl | rfl <;> rfl
/-- functions in a row of the call's own -/
def OwnF (lo : Nat) (w : World) (l : List Fu) (V : Value) : Prop :=
  ∃ ks : List Two, ks.length = l.length ∧ w.ownsRow lo 47 5 V l.length (fusC l ks) ∧ ∀ (i : Nat) (f : Fu) (k : Two), l[i]? = some f → ks[i]? = some k → FuK w (fun b => (lo ≤ b ∧ some b ≠ V.ownBlock) ∧ b < w.heap.size) f k
theorem OwnF.fus {lo : Nat} {w : World} {l : List Fu} {V : Value} (h : OwnF lo w l V) : FusC w (Rng lo w.heap.size) l V := by
  obtain ⟨ks, h1, h2, h3⟩ := h
  exact ⟨ks, h1, RowF.own h2, fun i f k a b => (h3 i f k a b).more fun q hq => ⟨hq.1.1, hq.2⟩⟩
theorem OwnF.moves {R lo : Nat} {w w' : World} {l : List Fu} {V : Value} (h : OwnF lo w l V) (hm : Moves R w w') (hR : R < lo) : OwnF lo w' l V := by
  obtain ⟨ks, h1, h2, h3⟩ := h
  refine ⟨ks, h1, h2.kept hm ?_, fun i e k he hk => ((h3 i e k he hk).same (hm.same fun q hq => ⟨hq.2, by omega⟩)).more fun q hq => ⟨hq.1, Nat.lt_of_lt_of_le hq.2 hm.size⟩⟩
  cases hv : V.ownBlock with
  | none => exact .inl rfl
  | some k =>
    refine .inr fun e => ?_
    injection e with e
    have := (h2.lt k hv).1
    omega
theorem OwnF.shape {lo : Nat} {w : World} {l : List Fu} {V : Value} (h : OwnF lo w l V) : ∃ A cp, V = .slice A l.length cp := by
  obtain ⟨ks, _, ho, _⟩ := h
  exact own_shape ho
theorem moreF_cons {z f : Nat} {l : List Fu} {t : Tok} {r : List Tok} : moreF z (f + 1) l (t :: r) = (funcP z (t :: r)).bind fun x r => moreF z f (l ++ [x]) r := by
  rw [moreF]
  rfl
theorem moreF_nil {z : Nat} {l : List Fu} : ∀ f, moreF z f l [] = .ok l []
  | 0 => rfl
  | f + 1 => by rw [moreF]; rfl
/-- what stands in memory at a round's beginning -/
structure Pg (R : Nat) (S : Src) (w : World) (l : List Fu) (U : Value) (ts : List Tok) (cur : World) : Prop where
  hlo : w.heap.size + 2 ≤ cur.heap.size
  mv : Moves R w cur
  th : cur.there w.heap.size 0 1
  va : VarAt cur (w.heap.size + 1) [U]
  own : OwnF (w.heap.size + 2) cur l U
  at' : At cur R S ts
theorem Pg.moves {R : Nat} {S : Src} {w : World} {l : List Fu} {U : Value} {ts ts' : List Tok} {cur cur' : World} (h : Pg R S w l U ts cur) (hR : R < w.heap.size) (hm : Moves R cur cur') (ha : At cur' R S ts') : Pg R S w l U ts' cur' := by
  have h1 := h.hlo
  exact ⟨Nat.le_trans h1 hm.size, h.mv.trans hm, there_of_block h.th (hm.block' (by omega) (by omega)), h.va.of (hm.block' (by omega) (by omega)), h.own.moves hm (by omega), ha⟩
theorem Pg.done {R : Nat} {S : Src} {w : World} {l : List Fu} {U V : Value} {f : Fu} {k : Two} {ks : List Two} {ts : List Tok} {cur wb : World} (h : Pg R S w l U ts cur) (hR : R < w.heap.size) (hk : ks.length = l.length) (ho0 : cur.ownsRow (w.heap.size + 2) 47 5 U l.length (fusC l ks)) (h3 : ∀ (i : Nat) (f : Fu) (k : Two), l[i]? = some f → ks[i]? = some k → FuK cur (fun b => (w.heap.size + 2 ≤ b ∧ some b ≠ U.ownBlock) ∧ b < cur.heap.size) f k)
    (hf : FuK cur (fun b => (w.heap.size + 2 ≤ b ∧ some b ≠ U.ownBlock) ∧ b < cur.heap.size) f k) (ho : wb.ownsRow (w.heap.size + 2) 47 5 V (l.length + 1) (fusC l ks ++ fuC f k.p k.b)) (hg : cur.grownBy wb U.ownBlock) (hv : V.ownBlock = U.ownBlock ∨ ∃ g, V.ownBlock = some g ∧ cur.heap.size ≤ g) :
    Pg R S w (l ++ [f]) V ts (wb.setCell ⟨w.heap.size + 1, 0, none⟩ V) ∧ VarAt wb (w.heap.size + 1) [U] := by
  have h1 := h.hlo
  have hb : Below (w.heap.size + 2) cur wb := ⟨hg.os, hg.tape, hg.output, hg.size, fun q hq => hg.block q (by omega) fun e => by have := (ho0.lt q e.symm).1; omega⟩
  have hst : ∀ q, q ≠ w.heap.size + 1 → (wb.setCell ⟨w.heap.size + 1, 0, none⟩ V).heap[q]? = wb.heap[q]? := fun q hq => set_other q hq
  have va' := h.va.of (hb.block _ (by omega))
  have hsame : ∀ {f : Fu} {k : Two}, FuK cur (fun b => (w.heap.size + 2 ≤ b ∧ some b ≠ U.ownBlock) ∧ b < cur.heap.size) f k → FuK (wb.setCell ⟨w.heap.size + 1, 0, none⟩ V) (fun b => (w.heap.size + 2 ≤ b ∧ some b ≠ V.ownBlock) ∧ b < (wb.setCell ⟨w.heap.size + 1, 0, none⟩ V).heap.size) f k := fun h =>
    ((h.same (fun b hb => hg.block b hb.2 hb.1.2)).same fun b hb => hst b (by have := hb.1.1; omega)).more fun b hb => ⟨⟨hb.1.1, by
      rcases hv with e | ⟨g, e, hge⟩
      · rw [e]; exact hb.1.2
      · rw [e]; intro h2; injection h2; omega⟩, by rw [set_size]; exact Nat.lt_of_lt_of_le hb.2 hg.size⟩
  refine ⟨⟨by rw [set_size]; exact Nat.le_trans h1 hg.size, (h.mv.low hb (by omega)).low (set_below (b := w.heap.size + 1)) (by omega), there_of_block h.th ((hst _ (by omega)).trans (hb.block _ (by omega))), va'.set 0 V, ⟨ks ++ [k], by simp [hk], ?_, fun i e q he hq => ?_⟩, (h.at'.under hb (by omega)).under (set_below (b := w.heap.size + 1)) (by omega)⟩, va'⟩
  · rw [fusC_snoc l ks hk, List.length_append]
    refine ⟨ho.1, ?_⟩
    rcases ho.2 with h' | ⟨g, cap, cur', rfl, hg1, hg2, rest⟩
    · exact .inl h'
    · exact .inr ⟨g, cap, cur', rfl, hg1, by rw [hst g (by omega)]; exact hg2, rest⟩
  · rcases snoc_get he with he | ⟨e1, rfl⟩ <;> rcases snoc_get hq with hq | ⟨e2, rfl⟩
    · exact hsame (h3 i e q he hq)
    · have := (List.getElem?_eq_some_iff.1 he).1
      omega
    · have := (List.getElem?_eq_some_iff.1 hq).1
      omega
    · exact hsame hf
def PrgS (R : Nat) (S : Src) (w : World) (m : Res (List Fu)) (wr : World) : Prop :=
  ∃ l U ts f, Pg R S w l U ts wr ∧ ts.length ≤ f ∧ l.length + ts.length ≤ S.all.length ∧ m = moreF S.z f l ts
def QP (lo : Nat) (w : World) (l : List Fu) (v : Value) : Prop := ∃ V, v = .agg #[V] ∧ FusC w (Rng lo w.heap.size) l V
theorem FusC.slice {w : World} {D : Nat → Prop} {l : List Fu} {V : Value} (h : FusC w D l V) : ∃ A c, V = .slice A l.length c := by
  obtain ⟨ks, _, hr, _⟩ := h
  obtain ⟨A, c, e, _⟩ := hr
  exact ⟨A, c, e⟩

set_option maxHeartbeats 6400000 in
theorem program (R : Nat) (S : Src) (hsm : S.all.length ≤ 4096) (ts : List Tok) (w : World) (ha : At w R S ts) :
    Calls Tryd.prog 15 #[.pointer (some ⟨R, 0, none⟩)] w (Got R S (QP w.heap.size) w (programP S.z ts)) := by
  have hR := ha.lt
  obtain ⟨i0, hi, hz0, hz1, hz2⟩ := info_parts info47
  have HF := Lib.hid (fun w1 ts1 h => function R S hsm ts1 w1 h)
  have HW : Hid (programP S.z ts = moreF S.z ts.length [] ts) := rfl
  obtain ⟨a0, b0, n0, n1, s0⟩ := open_two ha (.cells #[.slice none 0 0] 26) (.cells #[.slice none 0 0] 26)
  have hG : Hid (PrgS R S w (programP S.z ts) ((w.alloc (.cells #[.slice none 0 0] 26)).alloc (.cells #[.slice none 0 0] 26))) := ⟨[], .slice none 0 0, ts, ts.length, ⟨by omega, Moves.of_below b0 (Nat.le_refl _), there_cells (cs := [_]) n0 rfl, VarAt.block (cs := [_]) n1, ⟨[], rfl, World.ownsRow_nil _ _ _ _, fun i f k h => by simp at h⟩, a0⟩, Nat.le_refl _, by have := ha.len; simpa using this, rfl⟩
  clear ha a0 b0 n0 n1
  generalize programP S.z ts = m at *
  go_enter Tryd.func15, Tryd.ntmps15
  go_wp2
  generalize (w.alloc (.cells #[.slice none 0 0] 26)).alloc (.cells #[.slice none 0 0] 26) = w0 at *
  go_loopw [] (fun wr => PrgS R S w m wr) (fun wr => S.all.length - nextOf R wr)
  case atStart => exact hG.out
  case round =>
    obtain ⟨l, U, ts2, f, hP, hf, hll, hmr⟩ := hrel
    obtain ⟨A, cp, rfl⟩ := hP.own.shape
    obtain ⟨hok, i, hi2, hts, hblk⟩ := hP.at'
    obtain ⟨c0, c1, _⟩ := At.cells hblk
    unfold Src.V at c0
    have hmx := hok.2.1
    have hcx := hok.1
    unfold maxLen at hmx
    generalize Option.map (fun g => (⟨g, 0, none⟩ : Addr)) S.g = Ag at *
    have HP := Lib.hid hP
    have hnx := Lib.hid hP.at'.next
    by_cases hlt : i < S.all.length
    · have hts2 : ts2 = S.all[i] :: S.all.drop (i + 1) := by rw [hts, List.drop_eq_getElem_cons hlt]
      have HQ : Hid (ts2.length ≤ f ∧ l.length + ts2.length ≤ S.all.length ∧ m = moreF S.z f l ts2 ∧ ∃ t r, ts2 = t :: r) := ⟨hf, hll, hmr, _, _, hts2⟩
      have hn : l.length ≤ 4096 := by omega
      have HD : Hid (∀ n, Pg R S w l (.slice A l.length cp) ts2 ((wr.drewN n).drew)) := fun n => HP.out.moves hR (w := w) ⟨rfl, rfl, rfl, Nat.le_refl _, fun _ _ _ => rfl⟩ (hP.at'.below (below_drewN (Below.refl wr.heap.size wr) n).drew (Nat.le_refl _))
      clear hok hts hblk hts2 hf hll hmr hP
      go_wp2_with fail
      go_quiet (fail)
      go_wp2_with fail
      have HJ := Lib.hid (HD.out nq)
      refine wp_region_held_drew (S := fun _ => True) (by kernel_rfl) trivial (fun hHeld => ?_)
      refine wpAnyH_take (i := 0) (v := ?v0) rfl (by kernel_rfl) (by kernel_rfl) (by kernel_rfl) (fun _ _ _ h => h) (Or.inl ⟨by kernel_rfl, ?y0⟩) (by assumption) ?r0
      case y0 => (intro w hSw; (try dsimp only at hSw); go_simp; (try with_reducible rfl))
      try simp only [Act.put, List.getElem_toArray, List.getElem_cons_zero, List.getElem_cons_succ, List.setIfInBounds_toArray, List.set_cons_zero, List.set_cons_succ]
      refine wpAnyH_take (i := 2) (v := ?v2) rfl (by kernel_rfl) (by kernel_rfl) (by kernel_rfl) (fun _ _ _ h => h) (Or.inl ⟨by kernel_rfl, ?y2⟩) (by assumption) ?r2
      case y2 => (intro w hSw; (try dsimp only at hSw); go_simp; (try with_reducible rfl))
      try simp only [Act.put, List.getElem_toArray, List.getElem_cons_zero, List.getElem_cons_succ, List.setIfInBounds_toArray, List.set_cons_zero, List.set_cons_succ]
      generalize (wr.drewN nq).drew = wd at *
      refine wpAnyH_ready (rs := [1, 3]) (by kernel_rfl) (by simp) ?_
      refine AllReadyH.cons rfl (fun K hK => ?_) (AllReadyH.cons rfl (fun K hK => ?_) AllReadyH.nil)
      · have hce := (HJ.out.va.cell 0 _ rfl).1
        go_simp
        clear hce
        refine hK.out _ _ trivial (fun hHeld => ?_)
        clear hK K
        refine wpAnyH_ready (rs := [3]) (by kernel_rfl) (by simp) ?_
        refine AllReadyH.cons rfl (fun K hK => ?_) AllReadyH.nil
        go_simp
        refine (HF.out _ ts2 HJ.out.at').mono ?_
        rintro e' wc ⟨hm, ⟨g, r4, gv, hr, rfl, hq, ha4⟩ | ⟨cc, q, hr, rfl⟩⟩
        · obtain ⟨⟨kp, kb⟩, rfl, hp4, hb4⟩ := hq
          obtain ⟨A2, c2, h2⟩ := stsC_slice hb4
          obtain ⟨A1, c1, h1⟩ : ∃ A1 c1, kp = .slice A1 g.params.length c1 := by obtain ⟨A1, c1, h, _⟩ := hp4; exact ⟨A1, c1, h⟩
          dsimp only at h1 h2
          subst h1 h2
          have J4 := Lib.hid (HJ.out.moves hR hm ha4)
          have Y4 : Hid (FuK wc (fun q => (w.heap.size + 2 ≤ q ∧ some q ≠ (Value.slice A l.length cp).ownBlock) ∧ q < wc.heap.size) g ⟨.slice A1 g.params.length c1, .slice A2 g.body.length c2⟩) := by
            refine FuK.more (D := Rng wd.heap.size wc.heap.size) ⟨hp4, hb4⟩ fun q h => ⟨⟨?_, ?_⟩, h.2⟩
            · have := h.1; have := HJ.out.hlo; omega
            · intro e
              obtain ⟨ks', _, ho', _⟩ := HJ.out.own
              have h1 := (ho'.lt q e.symm).2
              have h2 := h.1
              omega
          have HR := Lib.hid hr
          clear hm hr ha4 hp4 hb4
          refine hK.out _ _ trivial (fun hHeld => ?_)
          clear hK K
          refine wpAnyH_ready (rs := [4]) (by kernel_rfl) (by simp) ?_
          refine AllReadyH.cons rfl (fun K hK => ?_) AllReadyH.nil
          simp only [fuC]
          go_simp
          have mz := Moves.alloc R wc (.cells #[.string (strN g.name), .slice A1 g.params.length c1, .int .i64 g.result, .slice A2 g.body.length c2, .int .i64 g.place] 47)
          have bz := below_alloc wc (.cells #[.string (strN g.name), .slice A1 g.params.length c1, .int .i64 g.result, .slice A2 g.body.length c2, .int .i64 g.place] 47)
          have J5 := Lib.hid (J4.out.moves hR mz (J4.out.at'.below bz (Nat.le_refl _)))
          have Y5 := Lib.hid ((Y4.out.same fun q h => bz.block q h.2).more (D' := fun q => (w.heap.size + 2 ≤ q ∧ some q ≠ (Value.slice A l.length cp).ownBlock) ∧ q < (wc.alloc (.cells #[.string (strN g.name), .slice A1 g.params.length c1, .int .i64 g.result, .slice A2 g.body.length c2, .int .i64 g.place] 47)).heap.size) fun q h => ⟨h.1, Nat.lt_of_lt_of_le h.2 bz.size⟩)
          have HN : Hid (∀ (j : Nat) (u : Value), (fuC g (.slice A1 g.params.length c1) (.slice A2 g.body.length c2))[j]? = some u → (wc.alloc (.cells #[.string (strN g.name), .slice A1 g.params.length c1, .int .i64 g.result, .slice A2 g.body.length c2, .int .i64 g.place] 47)).cell? ((Addr.mk wc.heap.size 0 none).add j) = some u) := fun j u hu => by
            rw [Addr.add_mid]
            exact range_of (cs := fuC g (.slice A1 g.params.length c1) (.slice A2 g.body.length c2)) (heap_alloc_new wc (.cells #[.string (strN g.name), .slice A1 g.params.length c1, .int .i64 g.result, .slice A2 g.body.length c2, .int .i64 g.place] 47)) j u hu
          clear mz bz
          generalize wc.alloc (.cells #[.string (strN g.name), .slice A1 g.params.length c1, .int .i64 g.result, .slice A2 g.body.length c2, .int .i64 g.place] 47) = wz at *
          refine hK.out _ _ trivial (fun hHeld => ?_)
          clear hK K
          obtain ⟨ks, hks, hown, hkid⟩ := J5.out.own
          refine wpAnyH_ready (rs := [5]) (by kernel_rfl) (by simp) ?_
          refine AllReadyH.cons rfl (fun K hK => ?_) AllReadyH.nil
          rw [if_pos (by rfl)]
          refine wp_append_one _ (.tmp 15) (.tmp 18) 24 rfl (w.heap.size + 2) 47 i0 _ 5 80 Tryd.underlying24 hi hz0 hz1 hz2 rfl (by omega) _ _ _ rfl hown ⟨wc.heap.size, 0, none⟩ 1 (fuC g (.slice A1 g.params.length c1) (.slice A2 g.body.length c2)) rfl rfl HN.out one5f (by omega) (by unfold maxLen; omega) J5.out.hlo ?_
          intro v' wb ho hg hv
          obtain ⟨A6, c6, rfl⟩ := own_shape ho
          obtain ⟨D1, D2⟩ := J5.out.done hR hks hown hkid Y5.out ho hg hv
          have HJ6 := Lib.hid D1
          have HV6 := Lib.hid D2
          clear ho hg hv D1 D2 HN hown hkid
          refine hK.out _ _ trivial (fun hHeld => ?_)
          clear hK K
          simp only [Act.put, List.setIfInBounds_toArray, List.set_cons_zero, List.set_cons_succ]
          refine wpAnyH_take (i := 6) (v := ?va6) rfl (by kernel_rfl) (by kernel_rfl) (by kernel_rfl) (fun _ _ _ h => h) (Or.inl ⟨by kernel_rfl, ?ya6⟩) (by assumption) ?ra6
          case ya6 => (intro w hSw; (try dsimp only at hSw); go_simp; (try with_reducible rfl))
          try simp only [Act.put, List.getElem_toArray, List.getElem_cons_zero, List.getElem_cons_succ, List.setIfInBounds_toArray, List.set_cons_zero, List.set_cons_succ]
          refine wpAnyH_ready (rs := [7]) (by kernel_rfl) (by simp) ?_
          refine AllReadyH.cons rfl (fun K hK => ?_) AllReadyH.nil
          obtain ⟨hce, hcf⟩ := HV6.out.cell 0 _ rfl
          go_simp
          clear hce hcf
          refine hK.out _ _ trivial (fun hHeld => ?_)
          clear hK K
          refine wpAnyH_done (by kernel_rfl) ?_ _
          go_wp2
          go_roundw
          case rel =>
            obtain ⟨hq1, hq2, hq3, t0, r0, hq4⟩ := HQ.out
            obtain ⟨f', rfl⟩ : ∃ f', f = f' + 1 := ⟨f - 1, by rw [hq4] at hq1; simp at hq1; omega⟩
            have ht := takes_func S.z _ _ _ HR.out
            exact ⟨l ++ [g], _, r4, f', HJ6.out, by omega, by simp; omega, by rw [hq3, hq4, moreF_cons, ← hq4, HR.out]; rfl⟩
          case measure =>
            have ht := takes_func S.z _ _ _ HR.out
            rw [hnx.out, HJ6.out.at'.next]
            omega
        · obtain ⟨hq1, hq2, hq3, t0, r0, hq4⟩ := HQ.out
          obtain ⟨f', rfl⟩ : ∃ f', f = f' + 1 := ⟨f - 1, by rw [hq4] at hq1; simp at hq1; omega⟩
          exact ⟨rfl, .bad (HJ.out.mv.trans hm) (by rw [hq3, hq4, moreF_cons, ← hq4, hr]; rfl)⟩
      · go_simp
        refine (HF.out _ ts2 HJ.out.at').mono ?_
        rintro e' wc ⟨hm, ⟨g, r4, gv, hr, rfl, hq, ha4⟩ | ⟨cc, q, hr, rfl⟩⟩
        · obtain ⟨⟨kp, kb⟩, rfl, hp4, hb4⟩ := hq
          obtain ⟨A2, c2, h2⟩ := stsC_slice hb4
          obtain ⟨A1, c1, h1⟩ : ∃ A1 c1, kp = .slice A1 g.params.length c1 := by obtain ⟨A1, c1, h, _⟩ := hp4; exact ⟨A1, c1, h⟩
          dsimp only at h1 h2
          subst h1 h2
          have J4 := Lib.hid (HJ.out.moves hR hm ha4)
          have Y4 : Hid (FuK wc (fun q => (w.heap.size + 2 ≤ q ∧ some q ≠ (Value.slice A l.length cp).ownBlock) ∧ q < wc.heap.size) g ⟨.slice A1 g.params.length c1, .slice A2 g.body.length c2⟩) := by
            refine FuK.more (D := Rng wd.heap.size wc.heap.size) ⟨hp4, hb4⟩ fun q h => ⟨⟨?_, ?_⟩, h.2⟩
            · have := h.1; have := HJ.out.hlo; omega
            · intro e
              obtain ⟨ks', _, ho', _⟩ := HJ.out.own
              have h1 := (ho'.lt q e.symm).2
              have h2 := h.1
              omega
          have HR := Lib.hid hr
          clear hm hr ha4 hp4 hb4
          refine hK.out _ _ trivial (fun hHeld => ?_)
          clear hK K
          refine wpAnyH_ready (rs := [1, 4]) (by kernel_rfl) (by simp) ?_
          refine AllReadyH.cons rfl (fun K hK => ?_) (AllReadyH.cons rfl (fun K hK => ?_) AllReadyH.nil)
          · have hce := (J4.out.va.cell 0 _ rfl).1
            go_simp
            clear hce
            refine hK.out _ _ trivial (fun hHeld => ?_)
            clear hK K
            refine wpAnyH_ready (rs := [4]) (by kernel_rfl) (by simp) ?_
            refine AllReadyH.cons rfl (fun K hK => ?_) AllReadyH.nil
            simp only [fuC]
            go_simp
            have mz := Moves.alloc R wc (.cells #[.string (strN g.name), .slice A1 g.params.length c1, .int .i64 g.result, .slice A2 g.body.length c2, .int .i64 g.place] 47)
            have bz := below_alloc wc (.cells #[.string (strN g.name), .slice A1 g.params.length c1, .int .i64 g.result, .slice A2 g.body.length c2, .int .i64 g.place] 47)
            have J5 := Lib.hid (J4.out.moves hR mz (J4.out.at'.below bz (Nat.le_refl _)))
            have Y5 := Lib.hid ((Y4.out.same fun q h => bz.block q h.2).more (D' := fun q => (w.heap.size + 2 ≤ q ∧ some q ≠ (Value.slice A l.length cp).ownBlock) ∧ q < (wc.alloc (.cells #[.string (strN g.name), .slice A1 g.params.length c1, .int .i64 g.result, .slice A2 g.body.length c2, .int .i64 g.place] 47)).heap.size) fun q h => ⟨h.1, Nat.lt_of_lt_of_le h.2 bz.size⟩)
            have HN : Hid (∀ (j : Nat) (u : Value), (fuC g (.slice A1 g.params.length c1) (.slice A2 g.body.length c2))[j]? = some u → (wc.alloc (.cells #[.string (strN g.name), .slice A1 g.params.length c1, .int .i64 g.result, .slice A2 g.body.length c2, .int .i64 g.place] 47)).cell? ((Addr.mk wc.heap.size 0 none).add j) = some u) := fun j u hu => by
              rw [Addr.add_mid]
              exact range_of (cs := fuC g (.slice A1 g.params.length c1) (.slice A2 g.body.length c2)) (heap_alloc_new wc (.cells #[.string (strN g.name), .slice A1 g.params.length c1, .int .i64 g.result, .slice A2 g.body.length c2, .int .i64 g.place] 47)) j u hu
            clear mz bz
            generalize wc.alloc (.cells #[.string (strN g.name), .slice A1 g.params.length c1, .int .i64 g.result, .slice A2 g.body.length c2, .int .i64 g.place] 47) = wz at *
            refine hK.out _ _ trivial (fun hHeld => ?_)
            clear hK K
            obtain ⟨ks, hks, hown, hkid⟩ := J5.out.own
            refine wpAnyH_ready (rs := [5]) (by kernel_rfl) (by simp) ?_
            refine AllReadyH.cons rfl (fun K hK => ?_) AllReadyH.nil
            rw [if_pos (by rfl)]
            refine wp_append_one _ (.tmp 15) (.tmp 18) 24 rfl (w.heap.size + 2) 47 i0 _ 5 80 Tryd.underlying24 hi hz0 hz1 hz2 rfl (by omega) _ _ _ rfl hown ⟨wc.heap.size, 0, none⟩ 1 (fuC g (.slice A1 g.params.length c1) (.slice A2 g.body.length c2)) rfl rfl HN.out one5f (by omega) (by unfold maxLen; omega) J5.out.hlo ?_
            intro v' wb ho hg hv
            obtain ⟨A6, c6, rfl⟩ := own_shape ho
            obtain ⟨D1, D2⟩ := J5.out.done hR hks hown hkid Y5.out ho hg hv
            have HJ6 := Lib.hid D1
            have HV6 := Lib.hid D2
            clear ho hg hv D1 D2 HN hown hkid
            refine hK.out _ _ trivial (fun hHeld => ?_)
            clear hK K
            simp only [Act.put, List.setIfInBounds_toArray, List.set_cons_zero, List.set_cons_succ]
            refine wpAnyH_take (i := 6) (v := ?vb6) rfl (by kernel_rfl) (by kernel_rfl) (by kernel_rfl) (fun _ _ _ h => h) (Or.inl ⟨by kernel_rfl, ?yb6⟩) (by assumption) ?rb6
            case yb6 => (intro w hSw; (try dsimp only at hSw); go_simp; (try with_reducible rfl))
            try simp only [Act.put, List.getElem_toArray, List.getElem_cons_zero, List.getElem_cons_succ, List.setIfInBounds_toArray, List.set_cons_zero, List.set_cons_succ]
            refine wpAnyH_ready (rs := [7]) (by kernel_rfl) (by simp) ?_
            refine AllReadyH.cons rfl (fun K hK => ?_) AllReadyH.nil
            obtain ⟨hce, hcf⟩ := HV6.out.cell 0 _ rfl
            go_simp
            clear hce hcf
            refine hK.out _ _ trivial (fun hHeld => ?_)
            clear hK K
            refine wpAnyH_done (by kernel_rfl) ?_ _
            go_wp2
            go_roundw
            case rel =>
              obtain ⟨hq1, hq2, hq3, t0, r0, hq4⟩ := HQ.out
              obtain ⟨f', rfl⟩ : ∃ f', f = f' + 1 := ⟨f - 1, by rw [hq4] at hq1; simp at hq1; omega⟩
              have ht := takes_func S.z _ _ _ HR.out
              exact ⟨l ++ [g], _, r4, f', HJ6.out, by omega, by simp; omega, by rw [hq3, hq4, moreF_cons, ← hq4, HR.out]; rfl⟩
            case measure =>
              have ht := takes_func S.z _ _ _ HR.out
              rw [hnx.out, HJ6.out.at'.next]
              omega
          · simp only [fuC]
            go_simp
            have mz := Moves.alloc R wc (.cells #[.string (strN g.name), .slice A1 g.params.length c1, .int .i64 g.result, .slice A2 g.body.length c2, .int .i64 g.place] 47)
            have bz := below_alloc wc (.cells #[.string (strN g.name), .slice A1 g.params.length c1, .int .i64 g.result, .slice A2 g.body.length c2, .int .i64 g.place] 47)
            have J5 := Lib.hid (J4.out.moves hR mz (J4.out.at'.below bz (Nat.le_refl _)))
            have Y5 := Lib.hid ((Y4.out.same fun q h => bz.block q h.2).more (D' := fun q => (w.heap.size + 2 ≤ q ∧ some q ≠ (Value.slice A l.length cp).ownBlock) ∧ q < (wc.alloc (.cells #[.string (strN g.name), .slice A1 g.params.length c1, .int .i64 g.result, .slice A2 g.body.length c2, .int .i64 g.place] 47)).heap.size) fun q h => ⟨h.1, Nat.lt_of_lt_of_le h.2 bz.size⟩)
            have HN : Hid (∀ (j : Nat) (u : Value), (fuC g (.slice A1 g.params.length c1) (.slice A2 g.body.length c2))[j]? = some u → (wc.alloc (.cells #[.string (strN g.name), .slice A1 g.params.length c1, .int .i64 g.result, .slice A2 g.body.length c2, .int .i64 g.place] 47)).cell? ((Addr.mk wc.heap.size 0 none).add j) = some u) := fun j u hu => by
              rw [Addr.add_mid]
              exact range_of (cs := fuC g (.slice A1 g.params.length c1) (.slice A2 g.body.length c2)) (heap_alloc_new wc (.cells #[.string (strN g.name), .slice A1 g.params.length c1, .int .i64 g.result, .slice A2 g.body.length c2, .int .i64 g.place] 47)) j u hu
            clear mz bz
            generalize wc.alloc (.cells #[.string (strN g.name), .slice A1 g.params.length c1, .int .i64 g.result, .slice A2 g.body.length c2, .int .i64 g.place] 47) = wz at *
            refine hK.out _ _ trivial (fun hHeld => ?_)
            clear hK K
            refine wpAnyH_ready (rs := [1]) (by kernel_rfl) (by simp) ?_
            refine AllReadyH.cons rfl (fun K hK => ?_) AllReadyH.nil
            have hce := (J5.out.va.cell 0 _ rfl).1
            go_simp
            clear hce
            refine hK.out _ _ trivial (fun hHeld => ?_)
            clear hK K
            obtain ⟨ks, hks, hown, hkid⟩ := J5.out.own
            refine wpAnyH_ready (rs := [5]) (by kernel_rfl) (by simp) ?_
            refine AllReadyH.cons rfl (fun K hK => ?_) AllReadyH.nil
            rw [if_pos (by rfl)]
            refine wp_append_one _ (.tmp 15) (.tmp 18) 24 rfl (w.heap.size + 2) 47 i0 _ 5 80 Tryd.underlying24 hi hz0 hz1 hz2 rfl (by omega) _ _ _ rfl hown ⟨wc.heap.size, 0, none⟩ 1 (fuC g (.slice A1 g.params.length c1) (.slice A2 g.body.length c2)) rfl rfl HN.out one5f (by omega) (by unfold maxLen; omega) J5.out.hlo ?_
            intro v' wb ho hg hv
            obtain ⟨A6, c6, rfl⟩ := own_shape ho
            obtain ⟨D1, D2⟩ := J5.out.done hR hks hown hkid Y5.out ho hg hv
            have HJ6 := Lib.hid D1
            have HV6 := Lib.hid D2
            clear ho hg hv D1 D2 HN hown hkid
            refine hK.out _ _ trivial (fun hHeld => ?_)
            clear hK K
            simp only [Act.put, List.setIfInBounds_toArray, List.set_cons_zero, List.set_cons_succ]
            refine wpAnyH_take (i := 6) (v := ?vc6) rfl (by kernel_rfl) (by kernel_rfl) (by kernel_rfl) (fun _ _ _ h => h) (Or.inl ⟨by kernel_rfl, ?yc6⟩) (by assumption) ?rc6
            case yc6 => (intro w hSw; (try dsimp only at hSw); go_simp; (try with_reducible rfl))
            try simp only [Act.put, List.getElem_toArray, List.getElem_cons_zero, List.getElem_cons_succ, List.setIfInBounds_toArray, List.set_cons_zero, List.set_cons_succ]
            refine wpAnyH_ready (rs := [7]) (by kernel_rfl) (by simp) ?_
            refine AllReadyH.cons rfl (fun K hK => ?_) AllReadyH.nil
            obtain ⟨hce, hcf⟩ := HV6.out.cell 0 _ rfl
            go_simp
            clear hce hcf
            refine hK.out _ _ trivial (fun hHeld => ?_)
            clear hK K
            refine wpAnyH_done (by kernel_rfl) ?_ _
            go_wp2
            go_roundw
            case rel =>
              obtain ⟨hq1, hq2, hq3, t0, r0, hq4⟩ := HQ.out
              obtain ⟨f', rfl⟩ : ∃ f', f = f' + 1 := ⟨f - 1, by rw [hq4] at hq1; simp at hq1; omega⟩
              have ht := takes_func S.z _ _ _ HR.out
              exact ⟨l ++ [g], _, r4, f', HJ6.out, by omega, by simp; omega, by rw [hq3, hq4, moreF_cons, ← hq4, HR.out]; rfl⟩
            case measure =>
              have ht := takes_func S.z _ _ _ HR.out
              rw [hnx.out, HJ6.out.at'.next]
              omega
        · obtain ⟨hq1, hq2, hq3, t0, r0, hq4⟩ := HQ.out
          obtain ⟨f', rfl⟩ : ∃ f', f = f' + 1 := ⟨f - 1, by rw [hq4] at hq1; simp at hq1; omega⟩
          exact ⟨rfl, .bad (HJ.out.mv.trans hm) (by rw [hq3, hq4, moreF_cons, ← hq4, hr]; rfl)⟩
    · have hie : i = S.all.length := by omega
      have hnil : ts2 = [] := by rw [hts, hie]; simp
      have HQ : Hid (m = .ok l []) := by show _ = _; rw [hmr, hnil, moreF_nil]
      rw [hnil] at HP
      have HD : Hid (∀ n, Pg R S w l (.slice A l.length cp) [] (wr.drewN n)) := fun n => HP.out.moves hR (w := w) ⟨rfl, rfl, rfl, Nat.le_refl _, fun _ _ _ => rfl⟩ (HP.out.at'.below (below_drewN (Below.refl wr.heap.size wr) n) (Nat.le_refl _))
      clear hok hts hblk hnil hf hll hmr hP
      go_wp2_with fail
      go_quiet (fail)
      have HJ := Lib.hid (HD.out nq)
      obtain ⟨q0, _⟩ := HJ.out.va.cell 0 _ rfl
      have s6 := HJ.out.hlo
      generalize wr.drewN nq = w6 at *
      go_wp2_with (refine wpList_storeN info26s rfl (.tmp 2) (.tmp 21) rfl rfl w.heap.size rfl [_] rfl rfl HJ.out.th (by simp [Value.oneCell']) ?_; intro w7 g1 g2 g3 g4 g5)
      refine bodyPost_ret (ret_cell (cs := [_]) Tryd.results15 Tryd.underlying26 rfl info26s _ _ w.heap.size rfl g1) rfl ?_
      refine .ok (HJ.out.mv.low g3 (Nat.le_refl _)) HQ.out ⟨.slice A l.length cp, rfl, ?_⟩ (HJ.out.at'.other hR g4)
      exact (HJ.out.own.fus.same fun q h => g4 q (by have := h.1; omega)).more fun q h => ⟨by have := h.1; omega, by rw [g5]; exact h.2⟩
end Go.Proofs.YtoicncfpoklanaaDoor
