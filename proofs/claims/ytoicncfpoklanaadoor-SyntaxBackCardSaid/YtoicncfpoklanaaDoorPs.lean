/- What the program's reader makes of 'for'. Conditions: the reader and its tokens lie in memory; the readers of expressions and of blocks read as said. -/
import Derived.Test.YtoicncfpoklanaaDoorPr
namespace Go.Proofs.YtoicncfpoklanaaDoor
open Go.RowKit
set_option maxRecDepth 100000
set_option linter.unusedSimpArgs false

/-- what stands in memory while the second expression of a 'for' is read -/
structure Lp (R : Nat) (S : Src) (w : World) (lo bs : Nat) (V : Value) (s : List Nat) (x : Ex) (k : Value) (ts : List Tok) (cur : World) : Prop where
  r0 : Res0 R S 6 w ts cur
  va : VarAt cur bs [.int .i64 4, .string (strN s), V, .slice none 0 0, .slice none 0 0, .int .i64 0]
  own : cur.ownsRow lo 39 5 V 1 (exC x k)
  kx : ExsC cur (fun q => (lo ≤ q ∧ some q ≠ V.ownBlock) ∧ q < bs) x.kids k
  hR : R < w.heap.size
  wl : w.heap.size < lo
  lb : lo ≤ bs
  bc : bs < cur.heap.size
  vb : ∀ g, V.ownBlock = some g → g < bs
theorem Lp.moves {R : Nat} {S : Src} {w : World} {lo bs : Nat} {V : Value} {s : List Nat} {x : Ex} {k : Value} {ts ts' : List Tok} {cur cur' : World} (h : Lp R S w lo bs V s x k ts cur) (hm : Moves R cur cur') (ha : At cur' R S ts') : Lp R S w lo bs V s x k ts' cur' := by
  have h1 := h.hR
  have h2 := h.wl
  have h3 := h.lb
  have h4 := h.bc
  refine ⟨h.r0.moves hm ha h.hR, h.va.of (hm.block' h.bc (by omega)), h.own.kept hm ?_, h.kx.same (hm.same fun q hq => ⟨by have := hq.2; omega, by have := hq.1.1; omega⟩), h.hR, h.wl, h.lb, Nat.lt_of_lt_of_le h.bc hm.size, h.vb⟩
  cases hv : V.ownBlock with
  | none => exact .inl rfl
  | some g =>
    refine .inr fun e => ?_
    injection e with e
    have := (h.own.lt g hv).1
    omega
theorem loopP_eq (z : Nat) (e : Par Ex) (b : Par (List St)) (ts : List Tok) : loopP z e b ts = (setP z e ts).bind fun x r => (wantT z [116, 111] r).bind fun _ r' => (e r').bind fun y q => (b q).bind fun l q' => .ok (.mk 4 x.1 [x.2, y] l [] 0) q' := rfl
/-- behind the append and the store -/
theorem Lp.done {R : Nat} {S : Src} {w : World} {lo bs : Nat} {V V' : Value} {s : List Nat} {x y : Ex} {k k2 : Value} {ts : List Tok} {cur wb : World} (h : Lp R S w lo bs V s x k ts cur) (hy : ExsC cur (Rng (bs + 1) cur.heap.size) y.kids k2)
    (ho : wb.ownsRow lo 39 5 V' 2 (exC x k ++ exC y k2)) (hg : cur.grownBy wb V.ownBlock) (hv : V'.ownBlock = V.ownBlock ∨ ∃ g, V'.ownBlock = some g ∧ cur.heap.size ≤ g) :
    Res0 R S 6 w ts (wb.setCell ⟨bs, 2, none⟩ V') ∧ VarAt wb bs [.int .i64 4, .string (strN s), V, .slice none 0 0, .slice none 0 0, .int .i64 0] ∧ ExsC (wb.setCell ⟨bs, 2, none⟩ V') (But w.heap.size bs wb.heap.size) [x, y] V' := by
  have h1 := h.hR
  have h2 := h.wl
  have h3 := h.lb
  have h4 := h.bc
  have hblk : ∀ q, q < cur.heap.size → some q ≠ V.ownBlock → wb.heap[q]? = cur.heap[q]? := fun q a b => hg.block q a b
  have hbs : some bs ≠ V.ownBlock := fun e => by have := h.vb bs e.symm; omega
  have hlow : ∀ q, q < lo → some q ≠ V.ownBlock := fun q hq e => by have := (h.own.lt q e.symm).1; omega
  have hb : Below lo cur wb := ⟨hg.os, hg.tape, hg.output, hg.size, fun q hq => hblk q (by omega) (hlow q hq)⟩
  have hst : ∀ q, q ≠ bs → (wb.setCell ⟨bs, 2, none⟩ V').heap[q]? = wb.heap[q]? := fun q hq => set_other q hq
  have hV' : ∀ g, V'.ownBlock = some g → g ≠ bs := fun g hgg e => by
    subst e
    rcases hv with e1 | ⟨g', e1, e2⟩
    · exact hbs (e1 ▸ hgg.symm)
    · rw [e1] at hgg
      injection hgg
      omega
  refine ⟨⟨(h.r0.mv.low hb (by omega)).low (set_below (b := bs)) (by omega), there_of_block h.r0.th ((hst _ (by omega)).trans (hblk _ (by have := h.r0.lt; omega) (hlow _ (by omega)))), by rw [set_size]; exact Nat.lt_of_lt_of_le h.r0.lt hg.size, (h.r0.at'.under hb (by omega)).under (set_below (b := bs)) (by omega)⟩, h.va.of (hblk _ h4 hbs), ?_⟩
  have hr := RowF.own ho
  refine .mk [x, y] [k, k2] V' rfl ?_ fun i e q he hq => ?_
  · obtain ⟨A, c, e1, e2, e3, e4, e5⟩ := hr
    refine ⟨A, c, e1, e2, e3, e4, fun j u hu => ?_⟩
    obtain ⟨ad, a1, a2, a3⟩ := e5 j u (by simpa [exsC] using hu)
    have hob : V'.ownBlock = some ad.block := by rw [e1, a1]; rfl
    have hnb := hV' _ hob
    exact ⟨ad, a1, ⟨⟨by have := a2.1; omega, hnb⟩, a2.2⟩, by rw [World.cell?_of_block (hst _ (by rw [addr_block]; exact hnb))]; exact a3⟩
  · rcases i with _ | _ | i
    · simp at he hq
      subst he hq
      exact ((h.kx.same fun q hq => (hblk q (by have := hq.2; omega) hq.1.2)).same fun q hq => hst q (by have := hq.2; omega)).more fun q hq => ⟨⟨by have := hq.1.1; omega, by have := hq.2; omega⟩, by have := hq.2; have := hg.size; omega⟩
    · simp at he hq
      subst he hq
      exact ((hy.same fun q hq => (hblk q hq.2 (fun e => by have := h.vb q e.symm; have := hq.1; omega))).same fun q hq => hst q (by have := hq.1; omega)).more fun q hq => ⟨⟨by have := hq.1; omega, by have := hq.1; omega⟩, by have := hq.2; have := hg.size; omega⟩
    · simp at he

set_option maxHeartbeats 6400000 in
theorem loop (R : Nat) (S : Src) (d : Nat) (e : Par Ex) (he : ExprOk R S d e) (b : Par (List St)) (hb : BlockOk R S d b) (ts : List Tok) (w : World) (ha : At w R S ts) :
    Calls Tryd.prog 63 #[.pointer (some ⟨R, 0, none⟩), .int .i64 d] w (Got R S (QSt w.heap.size) w (loopP S.z e b ts)) := by
  have hR := ha.lt
  have HB := Lib.hid hb
  have HE := Lib.hid he
  have H0 := Lib.hid (Res0.start ha [.int .i64 0, .string ⟨#[]⟩, .slice none 0 0, .slice none 0 0, .slice none 0 0, .int .i64 0] 43)
  have HW := Lib.hid (loopP_eq S.z e b ts)
  have K := Lib.hid (assignment R S 4 d e he ts _ H0.out.at')
  have s0 : (w.alloc (.cells #[.int .i64 0, .string ⟨#[]⟩, .slice none 0 0, .slice none 0 0, .slice none 0 0, .int .i64 0] 43)).heap.size = w.heap.size + 1 := by simp
  obtain ⟨i0, hi, hz0, hz1, hz2⟩ := info_parts info39
  clear ha he hb
  generalize loopP S.z e b ts = m at *
  go_enter Tryd.func63, Tryd.ntmps63
  go_wp2_with fail
  generalize w.alloc (.cells #[.int .i64 0, .string ⟨#[]⟩, .slice none 0 0, .slice none 0 0, .slice none 0 0, .int .i64 0] 43) = w0 at *
  refine K.out.mono ?_
  clear K
  rintro e' w1 ⟨hm, ⟨p, r, xv, hr, rfl, hq, ha1⟩ | ⟨c, q, hr, rfl⟩⟩
  · obtain ⟨V, rfl, hq⟩ := hq
    obtain ⟨A, cp, hV0⟩ := exsC_slice hq.exs
    have hV : V = .slice A 1 cp := hV0
    clear hV0
    subst hV
    obtain ⟨ks, hks, hown, hkid⟩ := hq
    obtain ⟨k, rfl⟩ : ∃ k, ks = [k] := by
      match ks, hks with
      | [k], _ => exact ⟨k, rfl⟩
    have hown1 : w1.ownsRow w0.heap.size 39 5 (.slice A 1 cp) 1 (exC p.2 k) := by simpa [exsC] using hown
    have hkx := hkid 0 p.2 k rfl rfl
    have s1 := hm.size
    have bt := below_alloc w1 (.cells #[.int .i64 4, .string (strN p.1), .slice A 1 cp, .slice none 0 0, .slice none 0 0, .int .i64 0] 43)
    have HL : Hid (Lp R S w w0.heap.size w1.heap.size (.slice A 1 cp) p.1 p.2 k r (w1.alloc (.cells #[.int .i64 4, .string (strN p.1), .slice A 1 cp, .slice none 0 0, .slice none 0 0, .int .i64 0] 43))) :=
      ⟨(H0.out.moves hm ha1 hR).below bt (Nat.le_refl _), VarAt.block (cs := [_, _, _, _, _, _]) (heap_alloc_new w1 _), hown1.alloc _, hkx.same fun q h => bt.block q h.2, hR, by omega, s1, by simp, fun g hg => (hown1.lt g hg).2⟩
    have HW2 : Hid (m = (wantT S.z [116, 111] r).bind fun _ r' => (e r').bind fun y q => (b q).bind fun l q' => .ok (.mk 4 p.1 [p.2, y] l [] 0) q') := by show _ = _; rw [HW.out, hr]; rfl
    have K := Lib.hid (want R S r [116, 111] ⟨#[116, 111]⟩ _ HL.out.r0.at' (by kernel_rfl) (by unfold Byn; decide))
    clear hm hr hown hkid hown1 hkx ha1 bt HW hks
    go_wp2_with fail
    generalize w1.alloc (.cells #[.int .i64 4, .string (strN p.1), .slice A 1 cp, .slice none 0 0, .slice none 0 0, .int .i64 0] 43) = w2 at *
    refine K.out.mono ?_
    clear K
    rintro e' w3 ⟨hm, ⟨u, r3, xu, hr, rfl, hq, ha3⟩ | ⟨c, q, hr, rfl⟩⟩
    · rw [show xu = .tuple #[] from hq]
      have hdd : Moves R w3 w3.drew := ⟨rfl, rfl, rfl, Nat.le_refl _, fun _ _ _ => rfl⟩
      have ha3d := ha3.below ((Below.refl w3.heap.size w3).drew) (Nat.le_refl _)
      have HJ := Lib.hid ((HL.out.moves hm ha3).moves hdd ha3d)
      have HW3 : Hid (m = (e r3).bind fun y q => (b q).bind fun l q' => .ok (.mk 4 p.1 [p.2, y] l [] 0) q') := by show _ = _; rw [HW2.out, hr]; rfl
      clear hm hr hq ha3 hdd ha3d HW2
      go_wp2_with fail
      refine wp_region_held_drew (S := fun _ => True) (by kernel_rfl) trivial (fun hHeld => ?_)
      refine wpAnyH_take (i := 0) (v := ?v0) rfl (by kernel_rfl) (by kernel_rfl) (by kernel_rfl) (fun _ _ _ h => h) (Or.inl ⟨by kernel_rfl, ?y0⟩) (by assumption) ?r0
      case y0 => (intro w hSw; (try dsimp only at hSw); go_simp; (try with_reducible rfl))
      try simp only [Act.put, List.getElem_toArray, List.getElem_cons_zero, List.getElem_cons_succ, List.setIfInBounds_toArray, List.set_cons_zero, List.set_cons_succ]
      refine wpAnyH_take (i := 2) (v := ?v2) rfl (by kernel_rfl) (by kernel_rfl) (by kernel_rfl) (fun _ _ _ h => h) (Or.inl ⟨by kernel_rfl, ?y2⟩) (by assumption) ?r2
      case y2 => (intro w hSw; (try dsimp only at hSw); go_simp; (try with_reducible rfl))
      try simp only [Act.put, List.getElem_toArray, List.getElem_cons_zero, List.getElem_cons_succ, List.setIfInBounds_toArray, List.set_cons_zero, List.set_cons_succ]
      refine wpAnyH_take (i := 3) (v := ?v3) rfl (by kernel_rfl) (by kernel_rfl) (by kernel_rfl) (fun _ _ _ h => h) (Or.inl ⟨by kernel_rfl, ?y3⟩) (by assumption) ?r3
      case y3 => (intro w hSw; (try dsimp only at hSw); go_simp; (try with_reducible rfl))
      try simp only [Act.put, List.getElem_toArray, List.getElem_cons_zero, List.getElem_cons_succ, List.setIfInBounds_toArray, List.set_cons_zero, List.set_cons_succ]
      generalize w3.drew = wd at *
      refine wpAnyH_ready (rs := [1, 4]) (by kernel_rfl) (by simp) ?_
      refine AllReadyH.cons rfl (fun K hK => ?_) (AllReadyH.cons rfl (fun K hK => ?_) AllReadyH.nil)
      · have hce := (HJ.out.va.cell 2 _ rfl).1
        go_simp
        clear hce
        refine hK.out _ _ trivial (fun hHeld => ?_)
        clear hK K
        refine wpAnyH_ready (rs := [4]) (by kernel_rfl) (by simp) ?_
        refine AllReadyH.cons rfl (fun K hK => ?_) AllReadyH.nil
        go_simp
        refine (HE.out _ r3 HJ.out.r0.at').mono ?_
        rintro e' wc ⟨hm, ⟨y, r4, yv, hr, rfl, hq, ha4⟩ | ⟨cc, q, hr, rfl⟩⟩
        · obtain ⟨k2, rfl, hk2, _⟩ := exV_cells hq
          obtain ⟨A2, c2, rfl⟩ := exsC_slice hk2
          have J4 := Lib.hid (HJ.out.moves hm ha4)
          have Y4 := Lib.hid (hk2.more (D' := Rng (w1.heap.size + 1) wc.heap.size) fun q h => ⟨by have := h.1; have := HJ.out.bc; omega, h.2⟩)
          have HW4 : Hid (m = (b r4).bind fun l q' => .ok (.mk 4 p.1 [p.2, y] l [] 0) q') := by show _ = _; rw [HW3.out, hr]; rfl
          clear hm hr hq ha4 hk2
          refine hK.out _ _ trivial (fun hHeld => ?_)
          clear hK K
          refine wpAnyH_ready (rs := [5]) (by kernel_rfl) (by simp) ?_
          refine AllReadyH.cons rfl (fun K hK => ?_) AllReadyH.nil
          go_simp
          have mz := Moves.alloc R wc (exO y (.slice A2 y.kids.length c2))
          have bz := below_alloc wc (exO y (.slice A2 y.kids.length c2))
          have J5 := Lib.hid (J4.out.moves mz (J4.out.r0.at'.below bz (Nat.le_refl _)))
          have Y5 := Lib.hid ((Y4.out.same fun q h => bz.block q h.2).more (D' := Rng (w1.heap.size + 1) (wc.alloc (exO y (.slice A2 y.kids.length c2))).heap.size) fun q h => ⟨h.1, Nat.lt_of_lt_of_le h.2 bz.size⟩)
          have HN : Hid (∀ (j : Nat) (u : Value), (exC y (.slice A2 y.kids.length c2))[j]? = some u → (wc.alloc (exO y (.slice A2 y.kids.length c2))).cell? ((Addr.mk wc.heap.size 0 none).add j) = some u) := fun j u hu => by
            rw [Addr.add_mid]
            exact range_of (cs := exC y (.slice A2 y.kids.length c2)) (heap_alloc_new wc (exO y (.slice A2 y.kids.length c2))) j u hu
          clear mz bz
          generalize wc.alloc (exO y (.slice A2 y.kids.length c2)) = wz at *
          refine hK.out _ _ trivial (fun hHeld => ?_)
          clear hK K
          refine wpAnyH_ready (rs := [6]) (by kernel_rfl) (by simp) ?_
          refine AllReadyH.cons rfl (fun K hK => ?_) AllReadyH.nil
          rw [if_pos (by rfl)]
          refine wp_append_one _ (.tmp 12) (.tmp 16) 37 rfl w0.heap.size 39 i0 _ 5 64 Tryd.underlying37 hi hz0 hz1 hz2 rfl (by omega) _ _ _ rfl J5.out.own ⟨wc.heap.size, 0, none⟩ 1 (exC y (.slice A2 y.kids.length c2)) rfl rfl HN.out one5 (by omega) (by unfold maxLen; omega) (by have := J5.out.bc; have := J5.out.lb; omega) ?_
          intro v' wb ho hg hv
          obtain ⟨A6, c6, rfl⟩ := own_shape ho
          have HD := J5.out.done Y5.out ho hg hv
          obtain ⟨D1, D2, D3⟩ := HD
          have HR6 := Lib.hid D1
          have HV6 := Lib.hid D2
          have HX6 := Lib.hid D3
          have sb : wz.heap.size ≤ wb.heap.size := hg.size
          have sbc := J5.out.bc
          clear ho hg hv D1 D2 D3 HN
          refine hK.out _ _ trivial (fun hHeld => ?_)
          clear hK K
          simp only [Act.put, List.setIfInBounds_toArray, List.set_cons_zero, List.set_cons_succ]
          refine wpAnyH_take (i := 7) (v := ?va7) rfl (by kernel_rfl) (by kernel_rfl) (by kernel_rfl) (fun _ _ _ h => h) (Or.inl ⟨by kernel_rfl, ?ya7⟩) (by assumption) ?ra7
          case ya7 => (intro w hSw; (try dsimp only at hSw); go_simp; (try with_reducible rfl))
          try simp only [Act.put, List.getElem_toArray, List.getElem_cons_zero, List.getElem_cons_succ, List.setIfInBounds_toArray, List.set_cons_zero, List.set_cons_succ]
          refine wpAnyH_ready (rs := [8]) (by kernel_rfl) (by simp) ?_
          refine AllReadyH.cons rfl (fun K hK => ?_) AllReadyH.nil
          obtain ⟨hce, hcf⟩ := HV6.out.cell 2 _ rfl
          go_simp
          have V7 := Lib.hid (HV6.out.set 2 (.slice A6 2 c6))
          have hsz : (wb.setCell ⟨w1.heap.size, 2, none⟩ (.slice A6 2 c6)).heap.size = wb.heap.size := set_size
          clear hce hcf
          refine hK.out _ _ trivial (fun hHeld => ?_)
          clear hK K hHeld
          refine wpAnyH_done (by kernel_rfl) ?_ _
          generalize hwq : wb.setCell ⟨w1.heap.size, 2, none⟩ (.slice A6 2 c6) = w7 at *
          have K := Lib.hid (HB.out _ r4 HR6.out.at')
          go_wp2_with fail
          refine K.out.mono ?_
          clear K
          rintro e' w8 ⟨hm, ⟨l, r8, Bv, hr, rfl, hq, ha8⟩ | ⟨c, q, hr, rfl⟩⟩
          · obtain ⟨A8, c8, rfl⟩ := stsC_slice hq
            have H8 := HR6.out.moves hm ha8 hR
            have hRL : w1.heap.size ≠ R := by omega
            have V8 := V7.out.of (hm.block' (k := w1.heap.size) (by omega) hRL)
            have s8 := hm.size
            obtain ⟨f8, z8⟩ := V8.cell 3 _ rfl
            have V9 := V8.set 3 (.slice A8 l.length c8)
            obtain ⟨q0, _⟩ := V9.cell 0 _ rfl
            obtain ⟨q1, _⟩ := V9.cell 1 _ rfl
            obtain ⟨q2, _⟩ := V9.cell 2 _ rfl
            obtain ⟨q3, _⟩ := V9.cell 3 _ rfl
            obtain ⟨q4, _⟩ := V9.cell 4 _ rfl
            obtain ⟨q5, _⟩ := V9.cell 5 _ rfl
            have X8 := HX6.out.same (hm.same fun q h => ⟨by have := h.2; omega, by have := h.1.1; omega⟩)
            have hoth : ∀ k, k ≠ w1.heap.size → (w8.setCell ⟨w1.heap.size, 3, none⟩ (.slice A8 l.length c8)).heap[k]? = w8.heap[k]? := fun k hk => set_other k hk
            have H9 : Hid (Res0 R S _ w r8 (w8.setCell ⟨w1.heap.size, 3, none⟩ (.slice A8 l.length c8))) := ⟨H8.mv.low (set_below (b := w1.heap.size)) (by omega), there_of_block H8.th (hoth _ (by omega)), by rw [set_size]; exact H8.lt, H8.at'.other (g := w1.heap.size) (by omega) hoth⟩
            have S9 : Hid (StK (w8.setCell ⟨w1.heap.size, 3, none⟩ (.slice A8 l.length c8)) (But w.heap.size w1.heap.size w8.heap.size) (.mk 4 p.1 [p.2, y] l [] 0) ⟨.slice A6 2 c6, .slice A8 l.length c8, .slice none 0 0⟩) :=
              ⟨(X8.same fun q h => hoth q h.1.2).more fun q h => ⟨h.1, by have := h.2; omega⟩, (StsC.same hq fun q h => hoth q (by have := h.1; omega)).more fun q h => ⟨⟨by have := h.1; omega, by have := h.1; omega⟩, h.2⟩, StsC.nothing _ _⟩
            have s9 : (w8.setCell ⟨w1.heap.size, 3, none⟩ (.slice A8 l.length c8)).heap.size = w8.heap.size := set_size
            have HW9 : Hid (m = .ok (.mk 4 p.1 [p.2, y] l [] 0) r8) := by show _ = _; rw [HW4.out, hr]; rfl
            clear hm hr hq ha8 H8 V8 V9 X8 hoth HW4
            go_wp2_with (refine wpList_storeN info43s rfl (.tmp 4) (.tmp 23) rfl rfl w.heap.size rfl [_, _, _, _, _, _] rfl rfl H9.out.th (by simp [Value.oneCell']) ?_; intro w10 g1 g2 g3 g4 g5)
            refine bodyPost_ret (ret_cell (cs := [_, _, _, _, _, _]) Tryd.results63 Tryd.underlying43 rfl info43s _ _ w.heap.size rfl g1) rfl ?_
            exact .ok (H9.out.mv.low g3 (Nat.le_refl _)) HW9.out ((S9.out.same fun q h => g4 q (by have := h.1.1; omega)).more fun q h => ⟨by have := h.1.1; omega, by rw [g5]; have := h.2; omega⟩).v (H9.out.at'.other hR g4)
          · have HQ := Lib.hid (HR6.out.mv.trans hm)
            have HR := Lib.hid hr
            clear hm hr
            go_wp2
            exact ⟨rfl, .bad HQ.out (by rw [HW4.out, HR.out]; rfl)⟩
        · exact ⟨rfl, .bad (HJ.out.r0.mv.trans hm) (by rw [HW3.out, hr]; rfl)⟩
      · go_simp
        refine (HE.out _ r3 HJ.out.r0.at').mono ?_
        rintro e' wc ⟨hm, ⟨y, r4, yv, hr, rfl, hq, ha4⟩ | ⟨cc, q, hr, rfl⟩⟩
        · obtain ⟨k2, rfl, hk2, _⟩ := exV_cells hq
          obtain ⟨A2, c2, rfl⟩ := exsC_slice hk2
          have J4 := Lib.hid (HJ.out.moves hm ha4)
          have Y4 := Lib.hid (hk2.more (D' := Rng (w1.heap.size + 1) wc.heap.size) fun q h => ⟨by have := h.1; have := HJ.out.bc; omega, h.2⟩)
          have HW4 : Hid (m = (b r4).bind fun l q' => .ok (.mk 4 p.1 [p.2, y] l [] 0) q') := by show _ = _; rw [HW3.out, hr]; rfl
          clear hm hr hq ha4 hk2
          refine hK.out _ _ trivial (fun hHeld => ?_)
          clear hK K
          refine wpAnyH_ready (rs := [1, 5]) (by kernel_rfl) (by simp) ?_
          refine AllReadyH.cons rfl (fun K hK => ?_) (AllReadyH.cons rfl (fun K hK => ?_) AllReadyH.nil)
          · have hce := (J4.out.va.cell 2 _ rfl).1
            go_simp
            clear hce
            refine hK.out _ _ trivial (fun hHeld => ?_)
            clear hK K
            refine wpAnyH_ready (rs := [5]) (by kernel_rfl) (by simp) ?_
            refine AllReadyH.cons rfl (fun K hK => ?_) AllReadyH.nil
            go_simp
            have mz := Moves.alloc R wc (exO y (.slice A2 y.kids.length c2))
            have bz := below_alloc wc (exO y (.slice A2 y.kids.length c2))
            have J5 := Lib.hid (J4.out.moves mz (J4.out.r0.at'.below bz (Nat.le_refl _)))
            have Y5 := Lib.hid ((Y4.out.same fun q h => bz.block q h.2).more (D' := Rng (w1.heap.size + 1) (wc.alloc (exO y (.slice A2 y.kids.length c2))).heap.size) fun q h => ⟨h.1, Nat.lt_of_lt_of_le h.2 bz.size⟩)
            have HN : Hid (∀ (j : Nat) (u : Value), (exC y (.slice A2 y.kids.length c2))[j]? = some u → (wc.alloc (exO y (.slice A2 y.kids.length c2))).cell? ((Addr.mk wc.heap.size 0 none).add j) = some u) := fun j u hu => by
              rw [Addr.add_mid]
              exact range_of (cs := exC y (.slice A2 y.kids.length c2)) (heap_alloc_new wc (exO y (.slice A2 y.kids.length c2))) j u hu
            clear mz bz
            generalize wc.alloc (exO y (.slice A2 y.kids.length c2)) = wz at *
            refine hK.out _ _ trivial (fun hHeld => ?_)
            clear hK K
            refine wpAnyH_ready (rs := [6]) (by kernel_rfl) (by simp) ?_
            refine AllReadyH.cons rfl (fun K hK => ?_) AllReadyH.nil
            rw [if_pos (by rfl)]
            refine wp_append_one _ (.tmp 12) (.tmp 16) 37 rfl w0.heap.size 39 i0 _ 5 64 Tryd.underlying37 hi hz0 hz1 hz2 rfl (by omega) _ _ _ rfl J5.out.own ⟨wc.heap.size, 0, none⟩ 1 (exC y (.slice A2 y.kids.length c2)) rfl rfl HN.out one5 (by omega) (by unfold maxLen; omega) (by have := J5.out.bc; have := J5.out.lb; omega) ?_
            intro v' wb ho hg hv
            obtain ⟨A6, c6, rfl⟩ := own_shape ho
            have HD := J5.out.done Y5.out ho hg hv
            obtain ⟨D1, D2, D3⟩ := HD
            have HR6 := Lib.hid D1
            have HV6 := Lib.hid D2
            have HX6 := Lib.hid D3
            have sb : wz.heap.size ≤ wb.heap.size := hg.size
            have sbc := J5.out.bc
            clear ho hg hv D1 D2 D3 HN
            refine hK.out _ _ trivial (fun hHeld => ?_)
            clear hK K
            simp only [Act.put, List.setIfInBounds_toArray, List.set_cons_zero, List.set_cons_succ]
            refine wpAnyH_take (i := 7) (v := ?vb7) rfl (by kernel_rfl) (by kernel_rfl) (by kernel_rfl) (fun _ _ _ h => h) (Or.inl ⟨by kernel_rfl, ?yb7⟩) (by assumption) ?rb7
            case yb7 => (intro w hSw; (try dsimp only at hSw); go_simp; (try with_reducible rfl))
            try simp only [Act.put, List.getElem_toArray, List.getElem_cons_zero, List.getElem_cons_succ, List.setIfInBounds_toArray, List.set_cons_zero, List.set_cons_succ]
            refine wpAnyH_ready (rs := [8]) (by kernel_rfl) (by simp) ?_
            refine AllReadyH.cons rfl (fun K hK => ?_) AllReadyH.nil
            obtain ⟨hce, hcf⟩ := HV6.out.cell 2 _ rfl
            go_simp
            have V7 := Lib.hid (HV6.out.set 2 (.slice A6 2 c6))
            have hsz : (wb.setCell ⟨w1.heap.size, 2, none⟩ (.slice A6 2 c6)).heap.size = wb.heap.size := set_size
            clear hce hcf
            refine hK.out _ _ trivial (fun hHeld => ?_)
            clear hK K hHeld
            refine wpAnyH_done (by kernel_rfl) ?_ _
            generalize hwq : wb.setCell ⟨w1.heap.size, 2, none⟩ (.slice A6 2 c6) = w7 at *
            have K := Lib.hid (HB.out _ r4 HR6.out.at')
            go_wp2_with fail
            refine K.out.mono ?_
            clear K
            rintro e' w8 ⟨hm, ⟨l, r8, Bv, hr, rfl, hq, ha8⟩ | ⟨c, q, hr, rfl⟩⟩
            · obtain ⟨A8, c8, rfl⟩ := stsC_slice hq
              have H8 := HR6.out.moves hm ha8 hR
              have hRL : w1.heap.size ≠ R := by omega
              have V8 := V7.out.of (hm.block' (k := w1.heap.size) (by omega) hRL)
              have s8 := hm.size
              obtain ⟨f8, z8⟩ := V8.cell 3 _ rfl
              have V9 := V8.set 3 (.slice A8 l.length c8)
              obtain ⟨q0, _⟩ := V9.cell 0 _ rfl
              obtain ⟨q1, _⟩ := V9.cell 1 _ rfl
              obtain ⟨q2, _⟩ := V9.cell 2 _ rfl
              obtain ⟨q3, _⟩ := V9.cell 3 _ rfl
              obtain ⟨q4, _⟩ := V9.cell 4 _ rfl
              obtain ⟨q5, _⟩ := V9.cell 5 _ rfl
              have X8 := HX6.out.same (hm.same fun q h => ⟨by have := h.2; omega, by have := h.1.1; omega⟩)
              have hoth : ∀ k, k ≠ w1.heap.size → (w8.setCell ⟨w1.heap.size, 3, none⟩ (.slice A8 l.length c8)).heap[k]? = w8.heap[k]? := fun k hk => set_other k hk
              have H9 : Hid (Res0 R S _ w r8 (w8.setCell ⟨w1.heap.size, 3, none⟩ (.slice A8 l.length c8))) := ⟨H8.mv.low (set_below (b := w1.heap.size)) (by omega), there_of_block H8.th (hoth _ (by omega)), by rw [set_size]; exact H8.lt, H8.at'.other (g := w1.heap.size) (by omega) hoth⟩
              have S9 : Hid (StK (w8.setCell ⟨w1.heap.size, 3, none⟩ (.slice A8 l.length c8)) (But w.heap.size w1.heap.size w8.heap.size) (.mk 4 p.1 [p.2, y] l [] 0) ⟨.slice A6 2 c6, .slice A8 l.length c8, .slice none 0 0⟩) :=
                ⟨(X8.same fun q h => hoth q h.1.2).more fun q h => ⟨h.1, by have := h.2; omega⟩, (StsC.same hq fun q h => hoth q (by have := h.1; omega)).more fun q h => ⟨⟨by have := h.1; omega, by have := h.1; omega⟩, h.2⟩, StsC.nothing _ _⟩
              have s9 : (w8.setCell ⟨w1.heap.size, 3, none⟩ (.slice A8 l.length c8)).heap.size = w8.heap.size := set_size
              have HW9 : Hid (m = .ok (.mk 4 p.1 [p.2, y] l [] 0) r8) := by show _ = _; rw [HW4.out, hr]; rfl
              clear hm hr hq ha8 H8 V8 V9 X8 hoth HW4
              go_wp2_with (refine wpList_storeN info43s rfl (.tmp 4) (.tmp 23) rfl rfl w.heap.size rfl [_, _, _, _, _, _] rfl rfl H9.out.th (by simp [Value.oneCell']) ?_; intro w10 g1 g2 g3 g4 g5)
              refine bodyPost_ret (ret_cell (cs := [_, _, _, _, _, _]) Tryd.results63 Tryd.underlying43 rfl info43s _ _ w.heap.size rfl g1) rfl ?_
              exact .ok (H9.out.mv.low g3 (Nat.le_refl _)) HW9.out ((S9.out.same fun q h => g4 q (by have := h.1.1; omega)).more fun q h => ⟨by have := h.1.1; omega, by rw [g5]; have := h.2; omega⟩).v (H9.out.at'.other hR g4)
            · have HQ := Lib.hid (HR6.out.mv.trans hm)
              have HR := Lib.hid hr
              clear hm hr
              go_wp2
              exact ⟨rfl, .bad HQ.out (by rw [HW4.out, HR.out]; rfl)⟩
          · go_simp
            have mz := Moves.alloc R wc (exO y (.slice A2 y.kids.length c2))
            have bz := below_alloc wc (exO y (.slice A2 y.kids.length c2))
            have J5 := Lib.hid (J4.out.moves mz (J4.out.r0.at'.below bz (Nat.le_refl _)))
            have Y5 := Lib.hid ((Y4.out.same fun q h => bz.block q h.2).more (D' := Rng (w1.heap.size + 1) (wc.alloc (exO y (.slice A2 y.kids.length c2))).heap.size) fun q h => ⟨h.1, Nat.lt_of_lt_of_le h.2 bz.size⟩)
            have HN : Hid (∀ (j : Nat) (u : Value), (exC y (.slice A2 y.kids.length c2))[j]? = some u → (wc.alloc (exO y (.slice A2 y.kids.length c2))).cell? ((Addr.mk wc.heap.size 0 none).add j) = some u) := fun j u hu => by
              rw [Addr.add_mid]
              exact range_of (cs := exC y (.slice A2 y.kids.length c2)) (heap_alloc_new wc (exO y (.slice A2 y.kids.length c2))) j u hu
            clear mz bz
            generalize wc.alloc (exO y (.slice A2 y.kids.length c2)) = wz at *
            refine hK.out _ _ trivial (fun hHeld => ?_)
            clear hK K
            refine wpAnyH_ready (rs := [1]) (by kernel_rfl) (by simp) ?_
            refine AllReadyH.cons rfl (fun K hK => ?_) AllReadyH.nil
            have hce := (J5.out.va.cell 2 _ rfl).1
            go_simp
            clear hce
            refine hK.out _ _ trivial (fun hHeld => ?_)
            clear hK K
            refine wpAnyH_ready (rs := [6]) (by kernel_rfl) (by simp) ?_
            refine AllReadyH.cons rfl (fun K hK => ?_) AllReadyH.nil
            rw [if_pos (by rfl)]
            refine wp_append_one _ (.tmp 12) (.tmp 16) 37 rfl w0.heap.size 39 i0 _ 5 64 Tryd.underlying37 hi hz0 hz1 hz2 rfl (by omega) _ _ _ rfl J5.out.own ⟨wc.heap.size, 0, none⟩ 1 (exC y (.slice A2 y.kids.length c2)) rfl rfl HN.out one5 (by omega) (by unfold maxLen; omega) (by have := J5.out.bc; have := J5.out.lb; omega) ?_
            intro v' wb ho hg hv
            obtain ⟨A6, c6, rfl⟩ := own_shape ho
            have HD := J5.out.done Y5.out ho hg hv
            obtain ⟨D1, D2, D3⟩ := HD
            have HR6 := Lib.hid D1
            have HV6 := Lib.hid D2
            have HX6 := Lib.hid D3
            have sb : wz.heap.size ≤ wb.heap.size := hg.size
            have sbc := J5.out.bc
            clear ho hg hv D1 D2 D3 HN
            refine hK.out _ _ trivial (fun hHeld => ?_)
            clear hK K
            simp only [Act.put, List.setIfInBounds_toArray, List.set_cons_zero, List.set_cons_succ]
            refine wpAnyH_take (i := 7) (v := ?vc7) rfl (by kernel_rfl) (by kernel_rfl) (by kernel_rfl) (fun _ _ _ h => h) (Or.inl ⟨by kernel_rfl, ?yc7⟩) (by assumption) ?rc7
            case yc7 => (intro w hSw; (try dsimp only at hSw); go_simp; (try with_reducible rfl))
            try simp only [Act.put, List.getElem_toArray, List.getElem_cons_zero, List.getElem_cons_succ, List.setIfInBounds_toArray, List.set_cons_zero, List.set_cons_succ]
            refine wpAnyH_ready (rs := [8]) (by kernel_rfl) (by simp) ?_
            refine AllReadyH.cons rfl (fun K hK => ?_) AllReadyH.nil
            obtain ⟨hce, hcf⟩ := HV6.out.cell 2 _ rfl
            go_simp
            have V7 := Lib.hid (HV6.out.set 2 (.slice A6 2 c6))
            have hsz : (wb.setCell ⟨w1.heap.size, 2, none⟩ (.slice A6 2 c6)).heap.size = wb.heap.size := set_size
            clear hce hcf
            refine hK.out _ _ trivial (fun hHeld => ?_)
            clear hK K hHeld
            refine wpAnyH_done (by kernel_rfl) ?_ _
            generalize hwq : wb.setCell ⟨w1.heap.size, 2, none⟩ (.slice A6 2 c6) = w7 at *
            have K := Lib.hid (HB.out _ r4 HR6.out.at')
            go_wp2_with fail
            refine K.out.mono ?_
            clear K
            rintro e' w8 ⟨hm, ⟨l, r8, Bv, hr, rfl, hq, ha8⟩ | ⟨c, q, hr, rfl⟩⟩
            · obtain ⟨A8, c8, rfl⟩ := stsC_slice hq
              have H8 := HR6.out.moves hm ha8 hR
              have hRL : w1.heap.size ≠ R := by omega
              have V8 := V7.out.of (hm.block' (k := w1.heap.size) (by omega) hRL)
              have s8 := hm.size
              obtain ⟨f8, z8⟩ := V8.cell 3 _ rfl
              have V9 := V8.set 3 (.slice A8 l.length c8)
              obtain ⟨q0, _⟩ := V9.cell 0 _ rfl
              obtain ⟨q1, _⟩ := V9.cell 1 _ rfl
              obtain ⟨q2, _⟩ := V9.cell 2 _ rfl
              obtain ⟨q3, _⟩ := V9.cell 3 _ rfl
              obtain ⟨q4, _⟩ := V9.cell 4 _ rfl
              obtain ⟨q5, _⟩ := V9.cell 5 _ rfl
              have X8 := HX6.out.same (hm.same fun q h => ⟨by have := h.2; omega, by have := h.1.1; omega⟩)
              have hoth : ∀ k, k ≠ w1.heap.size → (w8.setCell ⟨w1.heap.size, 3, none⟩ (.slice A8 l.length c8)).heap[k]? = w8.heap[k]? := fun k hk => set_other k hk
              have H9 : Hid (Res0 R S _ w r8 (w8.setCell ⟨w1.heap.size, 3, none⟩ (.slice A8 l.length c8))) := ⟨H8.mv.low (set_below (b := w1.heap.size)) (by omega), there_of_block H8.th (hoth _ (by omega)), by rw [set_size]; exact H8.lt, H8.at'.other (g := w1.heap.size) (by omega) hoth⟩
              have S9 : Hid (StK (w8.setCell ⟨w1.heap.size, 3, none⟩ (.slice A8 l.length c8)) (But w.heap.size w1.heap.size w8.heap.size) (.mk 4 p.1 [p.2, y] l [] 0) ⟨.slice A6 2 c6, .slice A8 l.length c8, .slice none 0 0⟩) :=
                ⟨(X8.same fun q h => hoth q h.1.2).more fun q h => ⟨h.1, by have := h.2; omega⟩, (StsC.same hq fun q h => hoth q (by have := h.1; omega)).more fun q h => ⟨⟨by have := h.1; omega, by have := h.1; omega⟩, h.2⟩, StsC.nothing _ _⟩
              have s9 : (w8.setCell ⟨w1.heap.size, 3, none⟩ (.slice A8 l.length c8)).heap.size = w8.heap.size := set_size
              have HW9 : Hid (m = .ok (.mk 4 p.1 [p.2, y] l [] 0) r8) := by show _ = _; rw [HW4.out, hr]; rfl
              clear hm hr hq ha8 H8 V8 V9 X8 hoth HW4
              go_wp2_with (refine wpList_storeN info43s rfl (.tmp 4) (.tmp 23) rfl rfl w.heap.size rfl [_, _, _, _, _, _] rfl rfl H9.out.th (by simp [Value.oneCell']) ?_; intro w10 g1 g2 g3 g4 g5)
              refine bodyPost_ret (ret_cell (cs := [_, _, _, _, _, _]) Tryd.results63 Tryd.underlying43 rfl info43s _ _ w.heap.size rfl g1) rfl ?_
              exact .ok (H9.out.mv.low g3 (Nat.le_refl _)) HW9.out ((S9.out.same fun q h => g4 q (by have := h.1.1; omega)).more fun q h => ⟨by have := h.1.1; omega, by rw [g5]; have := h.2; omega⟩).v (H9.out.at'.other hR g4)
            · have HQ := Lib.hid (HR6.out.mv.trans hm)
              have HR := Lib.hid hr
              clear hm hr
              go_wp2
              exact ⟨rfl, .bad HQ.out (by rw [HW4.out, HR.out]; rfl)⟩
        · exact ⟨rfl, .bad (HJ.out.r0.mv.trans hm) (by rw [HW3.out, hr]; rfl)⟩
    · have HQ := Lib.hid (HL.out.r0.mv.trans hm)
      have HR := Lib.hid hr
      clear hm hr
      go_wp2
      exact ⟨rfl, .bad HQ.out (by rw [HW2.out, HR.out]; rfl)⟩
  · have HQ := Lib.hid (H0.out.mv.trans hm)
    have HR := Lib.hid hr
    clear hm hr
    go_wp2
    exact ⟨rfl, .bad HQ.out (by rw [HW.out, HR.out]; rfl)⟩
end Go.Proofs.YtoicncfpoklanaaDoor
