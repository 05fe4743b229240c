/- What the program's reader makes of a parameter of a function. Conditions: the reader and its tokens lie in memory. -/
import Derived.Test.YtoicncfpoklanaaDoorPu
namespace Go.Proofs.YtoicncfpoklanaaDoor
open Go.RowKit
set_option maxRecDepth 100000
set_option linter.unusedSimpArgs false

theorem ent40 : EntC 40 := by intro args w; simp
theorem info71 : (Tryd.prog.info? 71).map (fun i => (i.zero, i.size, i.bytes)) = some (some (.agg #[.string ⟨#[]⟩, .int .i64 0]), 2, 24) := by kernel_rfl
theorem one2 {a : Int} {s : ByteArray} : ∀ u ∈ [Value.string s, .int .i64 a], u.oneCell' = true := by
  intro u hu
  simp at hu
  rcases hu with rfl | rfl <;> rfl
theorem pasC_snoc (l : List (List Nat × Nat)) (p : List Nat × Nat) : pasC (l ++ [p]) = pasC l ++ paC p := by simp [pasC]
/-- where a function's parts lie -/
structure Fp where
  R : Nat
  S : Src
  w0 : World
  bf : Nat
  br : Nat
  lo : Nat
  name : List Nat
  place : Nat
structure Fp.Ok (c : Fp) : Prop where
  hR : c.R < c.w0.heap.size
  f0 : c.w0.heap.size ≤ c.bf
  r0 : c.br ≠ c.R
  fl : c.bf < c.lo
  rl : c.br < c.lo
  fr : c.bf ≠ c.br
  sm : c.S.all.length ≤ 4096
def Fp.cs (c : Fp) (U : Value) : List Value := [.string (strN c.name), U, .int .i64 0, .slice none 0 0, .int .i64 c.place]
/-- what stands in memory while parameters are read -/
structure Fp.J (c : Fp) (l : List (List Nat × Nat)) (U : Value) (w : World) : Prop where
  hlo : c.lo ≤ w.heap.size
  mv : Moves c.R c.w0 w
  v : w.cell? ⟨c.br, 0, none⟩ = some (.pointer (some ⟨c.R, 0, none⟩))
  va : VarAt w c.bf (c.cs U)
  own : w.ownsRow c.lo 71 2 U l.length (pasC l)
def Fp.I (c : Fp) (l : List (List Nat × Nat)) (w : World) : Prop := ∃ U, c.J l U w
theorem Fp.J.moves {c : Fp} (hc : c.Ok) {l : List (List Nat × Nat)} {U : Value} {w w' : World} (h : c.J l U w) (hm : Moves c.R w w') : c.J l U w' := by
  have h1 := hc.hR
  have h2 := hc.f0
  have h3 := hc.fl
  have h4 := h.hlo
  refine ⟨Nat.le_trans h4 hm.size, h.mv.trans hm, (hm.cell (a := ⟨c.br, 0, none⟩) (by show c.br < _; have := hc.rl; omega) hc.r0).trans h.v, h.va.of (hm.block' (by omega) (by omega)), h.own.kept hm ?_⟩
  cases hv : U.ownBlock with
  | none => exact .inl rfl
  | some g =>
    refine .inr fun e => ?_
    injection e with e
    have := (h.own.lt g hv).1
    omega
theorem Fp.J.done {c : Fp} (hc : c.Ok) {l : List (List Nat × Nat)} {U V : Value} {p : List Nat × Nat} {w w' : World} (h : c.J l U w) (ho : w'.ownsRow c.lo 71 2 V (l.length + 1) (pasC l ++ paC p)) (hg : w.grownBy w' U.ownBlock) :
    c.J (l ++ [p]) V (w'.setCell ⟨c.bf, 1, none⟩ V) ∧ VarAt w' c.bf (c.cs U) ∧ Below c.bf w (w'.setCell ⟨c.bf, 1, none⟩ V) := by
  have h1 := hc.hR
  have h2 := hc.f0
  have h3 := hc.fl
  have h4 := h.hlo
  have hb : Below c.lo w w' := ⟨hg.os, hg.tape, hg.output, hg.size, fun q hq => hg.block q (by omega) fun e => by have := (h.own.lt q e.symm).1; omega⟩
  have hst : ∀ q, q ≠ c.bf → (w'.setCell ⟨c.bf, 1, none⟩ V).heap[q]? = w'.heap[q]? := fun q hq => set_other q hq
  have va' := h.va.of (hb.block _ hc.fl)
  have hbb : Below c.bf w (w'.setCell ⟨c.bf, 1, none⟩ V) := (hb.mono (by omega)).trans set_below
  refine ⟨⟨by rw [set_size]; exact Nat.le_trans h4 hg.size, h.mv.low hbb h2, ?_, va'.set 1 V, ?_⟩, va', hbb⟩
  · rw [World.cell?_of_block (a := ⟨c.br, 0, none⟩) ((hst _ (Ne.symm hc.fr)).trans (hb.block _ hc.rl))]
    exact h.v
  · rw [pasC_snoc, List.length_append]
    refine ⟨ho.1, ?_⟩
    rcases ho.2 with h' | ⟨g, cap, cur, rfl, hg1, hg2, rest⟩
    · exact .inl h'
    · exact .inr ⟨g, cap, cur, rfl, hg1, by rw [hst g (by omega)]; exact hg2, rest⟩
theorem paramP_eq (z : Nat) (ts : List Tok) : paramP z ts = (nameP z ts).bind fun s r => (wantT z [58] r).bind fun _ r' => (typeP z r').bind fun t q => .ok (s, t) q := rfl
def FpS (c : Fp) (w : World) : Prop := w.cell? ⟨c.br, 0, none⟩ = some (.pointer (some ⟨c.R, 0, none⟩))

set_option maxHeartbeats 6400000 in
theorem param1 (c : Fp) (hc : c.Ok) (l : List (List Nat × Nat)) (ts : List Tok) (w : World) (hI : c.I l w) (ha : At w c.R c.S ts) (hl : l.length + ts.length ≤ c.S.all.length) :
    Calls Tryd.prog 40 #[.pointer (some ⟨c.br, 0, none⟩), .pointer (some ⟨c.bf, 0, none⟩)] w (GotI c.R c.S (fun v w' => c.I (l ++ [v]) w') (fun w' => Moves c.R c.w0 w') (paramP c.S.z ts)) := by
  obtain ⟨U, hJ⟩ := hI
  obtain ⟨A, cp, rfl⟩ := own_shape hJ.own
  have hn : l.length ≤ 4096 := by have := hc.sm; omega
  have HC := Lib.hid hc
  have hRlo : c.R < c.bf := by have := hc.hR; have := hc.f0; omega
  obtain ⟨i0, hi, hz0, hz1, hz2⟩ := info_parts info71
  have K := Lib.hid (name c.R c.S ts w ha)
  have HW := Lib.hid (paramP_eq c.S.z ts)
  have HJ := Lib.hid hJ
  have hv := hJ.v
  clear ha hl hc hJ
  generalize paramP c.S.z ts = m at *
  go_enter Tryd.func40, Tryd.ntmps40
  go_wp2_with fail
  refine K.out.mono ?_
  clear K hv
  rintro e' w1 ⟨hm, ⟨s, r, xv, hr, rfl, hq, ha1⟩ | ⟨cc, q, hr, rfl⟩⟩
  · rw [show xv = .string (strN s) from hq]
    have J1 := Lib.hid (HJ.out.moves HC.out hm)
    have HW1 : Hid (m = (wantT c.S.z [58] r).bind fun _ r' => (typeP c.S.z r').bind fun t q => .ok (s, t) q) := by show _ = _; rw [HW.out, hr]; rfl
    have K := Lib.hid (want c.R c.S r [58] ⟨#[58]⟩ w1 ha1 (by kernel_rfl) (by unfold Byn; decide))
    have hv := J1.out.v
    clear hm hr hq ha1 HW
    go_wp2_with fail
    refine K.out.mono ?_
    clear K hv
    rintro e' w2 ⟨hm, ⟨u, r2, xu, hr, rfl, hq, ha2⟩ | ⟨cc, q, hr, rfl⟩⟩
    · rw [show xu = .tuple #[] from hq]
      have hdd : Moves c.R w2 w2.drew := ⟨rfl, rfl, rfl, Nat.le_refl _, fun _ _ _ => rfl⟩
      have J2 := Lib.hid ((J1.out.moves HC.out hm).moves HC.out hdd)
      have A2 := Lib.hid (ha2.below ((Below.refl w2.heap.size w2).drew) (Nat.le_refl _))
      have HW2 : Hid (m = (typeP c.S.z r2).bind fun t q => .ok (s, t) q) := by show _ = _; rw [HW1.out, hr]; rfl
      clear hm hr hq ha2 hdd HW1
      go_wp2_with fail
      refine wp_region_held_drew (S := FpS c) (by kernel_rfl) J2.out.v (fun hHeld => ?_)
      refine wpAnyH_take (i := 0) (v := ?v0) rfl (by kernel_rfl) (by kernel_rfl) (by kernel_rfl) (fun _ _ _ h => h) (Or.inl ⟨by kernel_rfl, ?y0⟩) (by assumption) ?r0
      case y0 => (intro w hSw; (try dsimp only at hSw); go_simp; (try with_reducible rfl))
      try simp only [Act.put, List.getElem_toArray, List.getElem_cons_zero, List.getElem_cons_succ, List.setIfInBounds_toArray, List.set_cons_zero, List.set_cons_succ]
      refine wpAnyH_take (i := 2) (v := ?v2) rfl (by kernel_rfl) (by kernel_rfl) (by kernel_rfl) (fun _ _ _ h => h) (Or.inl ⟨by kernel_rfl, ?y2⟩) (by assumption) ?r2
      case y2 => (intro w hSw; (try dsimp only at hSw); go_simp; (try with_reducible rfl))
      try simp only [Act.put, List.getElem_toArray, List.getElem_cons_zero, List.getElem_cons_succ, List.setIfInBounds_toArray, List.set_cons_zero, List.set_cons_succ]
      refine wpAnyH_take (i := 3) (v := ?v3) rfl (by kernel_rfl) (by kernel_rfl) (by kernel_rfl) (fun _ _ _ h => h) (Or.inl ⟨by kernel_rfl, ?y3⟩) (by assumption) ?r3
      case y3 => (intro w hSw; have q1 : w.cell? ⟨c.br, 0, none⟩ = some (.pointer (some ⟨c.R, 0, none⟩)) := hSw; (try dsimp only at hSw); go_simp; (try with_reducible rfl))
      try simp only [Act.put, List.getElem_toArray, List.getElem_cons_zero, List.getElem_cons_succ, List.setIfInBounds_toArray, List.set_cons_zero, List.set_cons_succ]
      generalize w2.drew = wd at *
      refine wpAnyH_ready (rs := [1, 4]) (by kernel_rfl) (by simp) ?_
      refine AllReadyH.cons rfl (fun K hK => ?_) (AllReadyH.cons rfl (fun K hK => ?_) AllReadyH.nil)
      · have hce := (J2.out.va.cell 1 _ rfl).1
        go_simp
        clear hce
        refine hK.out _ _ J2.out.v (fun hHeld => ?_)
        clear hK K
        refine wpAnyH_ready (rs := [4]) (by kernel_rfl) (by simp) ?_
        refine AllReadyH.cons rfl (fun K hK => ?_) AllReadyH.nil
        go_simp
        refine (valueType c.R c.S r2 _ A2.out).mono ?_
        rintro e' wc ⟨hm, ⟨ty, r4, yv, hr, rfl, hq, ha4⟩ | ⟨cc, q, hr, rfl⟩⟩
        · rw [show yv = .int .i64 ty from hq]
          have J4 := Lib.hid (J2.out.moves HC.out hm)
          have A4 := Lib.hid ha4
          have HW4 : Hid (m = .ok (s, ty) r4) := by show _ = _; rw [HW2.out, hr]; rfl
          clear hm hr hq ha4
          refine hK.out _ _ J4.out.v (fun hHeld => ?_)
          clear hK K
          refine wpAnyH_take (i := 5) (v := ?va5) rfl (by kernel_rfl) (by kernel_rfl) (by kernel_rfl) (fun _ _ _ h => h) (Or.inl ⟨by kernel_rfl, ?ya5⟩) (by assumption) ?ra5
          case ya5 => (intro w hSw; (try dsimp only at hSw); go_simp; (try with_reducible rfl))
          try simp only [Act.put, List.getElem_toArray, List.getElem_cons_zero, List.getElem_cons_succ, List.setIfInBounds_toArray, List.set_cons_zero, List.set_cons_succ]
          refine wpAnyH_ready (rs := [6]) (by kernel_rfl) (by simp) ?_
          refine AllReadyH.cons rfl (fun K hK => ?_) AllReadyH.nil
          go_simp
          have mz := Moves.alloc c.R wc (.cells #[.string (strN s), .int .i64 ty] 71)
          have bz := below_alloc wc (.cells #[.string (strN s), .int .i64 ty] 71)
          have J5 := Lib.hid (J4.out.moves HC.out mz)
          have A5 := Lib.hid (A4.out.below bz (Nat.le_refl _))
          have HN : Hid (∀ (j : Nat) (u : Value), (paC (s, ty))[j]? = some u → (wc.alloc (.cells #[.string (strN s), .int .i64 ty] 71)).cell? ((Addr.mk wc.heap.size 0 none).add j) = some u) := fun j u hu => by
            rw [Addr.add_mid]
            exact range_of (cs := paC (s, ty)) (heap_alloc_new wc (.cells #[.string (strN s), .int .i64 ty] 71)) j u hu
          clear mz bz
          generalize wc.alloc (.cells #[.string (strN s), .int .i64 ty] 71) = wz at *
          refine hK.out _ _ J5.out.v (fun hHeld => ?_)
          clear hK K
          refine wpAnyH_ready (rs := [7]) (by kernel_rfl) (by simp) ?_
          refine AllReadyH.cons rfl (fun K hK => ?_) AllReadyH.nil
          rw [if_pos (by rfl)]
          refine wp_append_one _ (.tmp 8) (.tmp 13) 44 rfl c.lo 71 i0 _ 2 24 Tryd.underlying44 hi hz0 hz1 hz2 rfl (by omega) _ _ _ rfl J5.out.own ⟨wc.heap.size, 0, none⟩ 1 (paC (s, ty)) rfl rfl HN.out one2 (by omega) (by unfold maxLen; omega) J5.out.hlo ?_
          intro v' wb ho hg hv
          obtain ⟨A6, c6, rfl⟩ := own_shape ho
          obtain ⟨D1, D2, D3⟩ := J5.out.done HC.out ho hg
          have HJ6 := Lib.hid D1
          have HV6 := Lib.hid D2
          have hv6 : FpS c wb := by
            have h1 : Below c.lo wz wb := ⟨hg.os, hg.tape, hg.output, hg.size, fun q hq => hg.block q (by have := J5.out.hlo; omega) fun e => by have := (J5.out.own.lt q e.symm).1; omega⟩
            exact (h1.cell (p := ⟨c.br, 0, none⟩) HC.out.rl).trans J5.out.v
          have A6' := Lib.hid (A5.out.under D3 hRlo)
          clear ho hg hv D1 D2 D3 HN
          refine hK.out _ _ hv6 (fun hHeld => ?_)
          clear hK K
          simp only [Act.put, List.setIfInBounds_toArray, List.set_cons_zero, List.set_cons_succ]
          refine wpAnyH_take (i := 8) (v := ?va8) rfl (by kernel_rfl) (by kernel_rfl) (by kernel_rfl) (fun _ _ _ h => h) (Or.inl ⟨by kernel_rfl, ?ya8⟩) (by assumption) ?ra8
          case ya8 => (intro w hSw; (try dsimp only at hSw); go_simp; (try with_reducible rfl))
          try simp only [Act.put, List.getElem_toArray, List.getElem_cons_zero, List.getElem_cons_succ, List.setIfInBounds_toArray, List.set_cons_zero, List.set_cons_succ]
          refine wpAnyH_ready (rs := [9]) (by kernel_rfl) (by simp) ?_
          refine AllReadyH.cons rfl (fun K hK => ?_) AllReadyH.nil
          obtain ⟨hce, hcf⟩ := HV6.out.cell 1 _ rfl
          go_simp
          clear hce hcf
          refine hK.out _ _ HJ6.out.v (fun hHeld => ?_)
          clear hK K
          refine wpAnyH_done (by kernel_rfl) ?_ _
          go_wp2
          first | go_end0 | refine bodyPost_ret (results_none rfl _ _ _) rfl ?_
          exact .inl ⟨(s, ty), r4, HW4.out, rfl, ⟨_, HJ6.out⟩, A6'.out⟩
        · exact ⟨rfl, .inr ⟨cc, q, by rw [HW2.out, hr]; rfl, rfl, J2.out.mv.trans hm⟩⟩
      · go_simp
        refine (valueType c.R c.S r2 _ A2.out).mono ?_
        rintro e' wc ⟨hm, ⟨ty, r4, yv, hr, rfl, hq, ha4⟩ | ⟨cc, q, hr, rfl⟩⟩
        · rw [show yv = .int .i64 ty from hq]
          have J4 := Lib.hid (J2.out.moves HC.out hm)
          have A4 := Lib.hid ha4
          have HW4 : Hid (m = .ok (s, ty) r4) := by show _ = _; rw [HW2.out, hr]; rfl
          clear hm hr hq ha4
          refine hK.out _ _ J4.out.v (fun hHeld => ?_)
          clear hK K
          refine wpAnyH_take (i := 5) (v := ?vb5) rfl (by kernel_rfl) (by kernel_rfl) (by kernel_rfl) (fun _ _ _ h => h) (Or.inl ⟨by kernel_rfl, ?yb5⟩) (by assumption) ?rb5
          case yb5 => (intro w hSw; (try dsimp only at hSw); go_simp; (try with_reducible rfl))
          try simp only [Act.put, List.getElem_toArray, List.getElem_cons_zero, List.getElem_cons_succ, List.setIfInBounds_toArray, List.set_cons_zero, List.set_cons_succ]
          refine wpAnyH_ready (rs := [1, 6]) (by kernel_rfl) (by simp) ?_
          refine AllReadyH.cons rfl (fun K hK => ?_) (AllReadyH.cons rfl (fun K hK => ?_) AllReadyH.nil)
          · have hce := (J4.out.va.cell 1 _ rfl).1
            go_simp
            clear hce
            refine hK.out _ _ J4.out.v (fun hHeld => ?_)
            clear hK K
            refine wpAnyH_ready (rs := [6]) (by kernel_rfl) (by simp) ?_
            refine AllReadyH.cons rfl (fun K hK => ?_) AllReadyH.nil
            go_simp
            have mz := Moves.alloc c.R wc (.cells #[.string (strN s), .int .i64 ty] 71)
            have bz := below_alloc wc (.cells #[.string (strN s), .int .i64 ty] 71)
            have J5 := Lib.hid (J4.out.moves HC.out mz)
            have A5 := Lib.hid (A4.out.below bz (Nat.le_refl _))
            have HN : Hid (∀ (j : Nat) (u : Value), (paC (s, ty))[j]? = some u → (wc.alloc (.cells #[.string (strN s), .int .i64 ty] 71)).cell? ((Addr.mk wc.heap.size 0 none).add j) = some u) := fun j u hu => by
              rw [Addr.add_mid]
              exact range_of (cs := paC (s, ty)) (heap_alloc_new wc (.cells #[.string (strN s), .int .i64 ty] 71)) j u hu
            clear mz bz
            generalize wc.alloc (.cells #[.string (strN s), .int .i64 ty] 71) = wz at *
            refine hK.out _ _ J5.out.v (fun hHeld => ?_)
            clear hK K
            refine wpAnyH_ready (rs := [7]) (by kernel_rfl) (by simp) ?_
            refine AllReadyH.cons rfl (fun K hK => ?_) AllReadyH.nil
            rw [if_pos (by rfl)]
            refine wp_append_one _ (.tmp 8) (.tmp 13) 44 rfl c.lo 71 i0 _ 2 24 Tryd.underlying44 hi hz0 hz1 hz2 rfl (by omega) _ _ _ rfl J5.out.own ⟨wc.heap.size, 0, none⟩ 1 (paC (s, ty)) rfl rfl HN.out one2 (by omega) (by unfold maxLen; omega) J5.out.hlo ?_
            intro v' wb ho hg hv
            obtain ⟨A6, c6, rfl⟩ := own_shape ho
            obtain ⟨D1, D2, D3⟩ := J5.out.done HC.out ho hg
            have HJ6 := Lib.hid D1
            have HV6 := Lib.hid D2
            have hv6 : FpS c wb := by
              have h1 : Below c.lo wz wb := ⟨hg.os, hg.tape, hg.output, hg.size, fun q hq => hg.block q (by have := J5.out.hlo; omega) fun e => by have := (J5.out.own.lt q e.symm).1; omega⟩
              exact (h1.cell (p := ⟨c.br, 0, none⟩) HC.out.rl).trans J5.out.v
            have A6' := Lib.hid (A5.out.under D3 hRlo)
            clear ho hg hv D1 D2 D3 HN
            refine hK.out _ _ hv6 (fun hHeld => ?_)
            clear hK K
            simp only [Act.put, List.setIfInBounds_toArray, List.set_cons_zero, List.set_cons_succ]
            refine wpAnyH_take (i := 8) (v := ?vb8) rfl (by kernel_rfl) (by kernel_rfl) (by kernel_rfl) (fun _ _ _ h => h) (Or.inl ⟨by kernel_rfl, ?yb8⟩) (by assumption) ?rb8
            case yb8 => (intro w hSw; (try dsimp only at hSw); go_simp; (try with_reducible rfl))
            try simp only [Act.put, List.getElem_toArray, List.getElem_cons_zero, List.getElem_cons_succ, List.setIfInBounds_toArray, List.set_cons_zero, List.set_cons_succ]
            refine wpAnyH_ready (rs := [9]) (by kernel_rfl) (by simp) ?_
            refine AllReadyH.cons rfl (fun K hK => ?_) AllReadyH.nil
            obtain ⟨hce, hcf⟩ := HV6.out.cell 1 _ rfl
            go_simp
            clear hce hcf
            refine hK.out _ _ HJ6.out.v (fun hHeld => ?_)
            clear hK K
            refine wpAnyH_done (by kernel_rfl) ?_ _
            go_wp2
            first | go_end0 | refine bodyPost_ret (results_none rfl _ _ _) rfl ?_
            exact .inl ⟨(s, ty), r4, HW4.out, rfl, ⟨_, HJ6.out⟩, A6'.out⟩
          · go_simp
            have mz := Moves.alloc c.R wc (.cells #[.string (strN s), .int .i64 ty] 71)
            have bz := below_alloc wc (.cells #[.string (strN s), .int .i64 ty] 71)
            have J5 := Lib.hid (J4.out.moves HC.out mz)
            have A5 := Lib.hid (A4.out.below bz (Nat.le_refl _))
            have HN : Hid (∀ (j : Nat) (u : Value), (paC (s, ty))[j]? = some u → (wc.alloc (.cells #[.string (strN s), .int .i64 ty] 71)).cell? ((Addr.mk wc.heap.size 0 none).add j) = some u) := fun j u hu => by
              rw [Addr.add_mid]
              exact range_of (cs := paC (s, ty)) (heap_alloc_new wc (.cells #[.string (strN s), .int .i64 ty] 71)) j u hu
            clear mz bz
            generalize wc.alloc (.cells #[.string (strN s), .int .i64 ty] 71) = wz at *
            refine hK.out _ _ J5.out.v (fun hHeld => ?_)
            clear hK K
            refine wpAnyH_ready (rs := [1]) (by kernel_rfl) (by simp) ?_
            refine AllReadyH.cons rfl (fun K hK => ?_) AllReadyH.nil
            have hce := (J5.out.va.cell 1 _ rfl).1
            go_simp
            clear hce
            refine hK.out _ _ J5.out.v (fun hHeld => ?_)
            clear hK K
            refine wpAnyH_ready (rs := [7]) (by kernel_rfl) (by simp) ?_
            refine AllReadyH.cons rfl (fun K hK => ?_) AllReadyH.nil
            rw [if_pos (by rfl)]
            refine wp_append_one _ (.tmp 8) (.tmp 13) 44 rfl c.lo 71 i0 _ 2 24 Tryd.underlying44 hi hz0 hz1 hz2 rfl (by omega) _ _ _ rfl J5.out.own ⟨wc.heap.size, 0, none⟩ 1 (paC (s, ty)) rfl rfl HN.out one2 (by omega) (by unfold maxLen; omega) J5.out.hlo ?_
            intro v' wb ho hg hv
            obtain ⟨A6, c6, rfl⟩ := own_shape ho
            obtain ⟨D1, D2, D3⟩ := J5.out.done HC.out ho hg
            have HJ6 := Lib.hid D1
            have HV6 := Lib.hid D2
            have hv6 : FpS c wb := by
              have h1 : Below c.lo wz wb := ⟨hg.os, hg.tape, hg.output, hg.size, fun q hq => hg.block q (by have := J5.out.hlo; omega) fun e => by have := (J5.out.own.lt q e.symm).1; omega⟩
              exact (h1.cell (p := ⟨c.br, 0, none⟩) HC.out.rl).trans J5.out.v
            have A6' := Lib.hid (A5.out.under D3 hRlo)
            clear ho hg hv D1 D2 D3 HN
            refine hK.out _ _ hv6 (fun hHeld => ?_)
            clear hK K
            simp only [Act.put, List.setIfInBounds_toArray, List.set_cons_zero, List.set_cons_succ]
            refine wpAnyH_take (i := 8) (v := ?vc8) rfl (by kernel_rfl) (by kernel_rfl) (by kernel_rfl) (fun _ _ _ h => h) (Or.inl ⟨by kernel_rfl, ?yc8⟩) (by assumption) ?rc8
            case yc8 => (intro w hSw; (try dsimp only at hSw); go_simp; (try with_reducible rfl))
            try simp only [Act.put, List.getElem_toArray, List.getElem_cons_zero, List.getElem_cons_succ, List.setIfInBounds_toArray, List.set_cons_zero, List.set_cons_succ]
            refine wpAnyH_ready (rs := [9]) (by kernel_rfl) (by simp) ?_
            refine AllReadyH.cons rfl (fun K hK => ?_) AllReadyH.nil
            obtain ⟨hce, hcf⟩ := HV6.out.cell 1 _ rfl
            go_simp
            clear hce hcf
            refine hK.out _ _ HJ6.out.v (fun hHeld => ?_)
            clear hK K
            refine wpAnyH_done (by kernel_rfl) ?_ _
            go_wp2
            first | go_end0 | refine bodyPost_ret (results_none rfl _ _ _) rfl ?_
            exact .inl ⟨(s, ty), r4, HW4.out, rfl, ⟨_, HJ6.out⟩, A6'.out⟩
        · exact ⟨rfl, .inr ⟨cc, q, by rw [HW2.out, hr]; rfl, rfl, J2.out.mv.trans hm⟩⟩
    · have HQ := Lib.hid (J1.out.mv.trans hm)
      have HR := Lib.hid hr
      clear hm hr
      go_wp2
      exact ⟨rfl, .inr ⟨cc, q, by rw [HW1.out, HR.out]; rfl, rfl, HQ.out⟩⟩
  · have HQ := Lib.hid (HJ.out.mv.trans hm)
    have HR := Lib.hid hr
    clear hm hr
    go_wp2
    exact ⟨rfl, .inr ⟨cc, q, by rw [HW.out, HR.out]; rfl, rfl, HQ.out⟩⟩
end Go.Proofs.YtoicncfpoklanaaDoor
