/- What the program's reader makes of an expression behind signs. Conditions: the reader and its tokens lie in memory; the readers of expressions of one depth more read as said. -/
import Derived.Test.YtoicncfpoklanaaDoorPl
namespace Go.Proofs.YtoicncfpoklanaaDoor
open Go.RowKit
set_option maxRecDepth 100000
set_option linter.unusedSimpArgs false

/-- what the region reads -/
def OneS (tb : Nat) (t : Tok) (w : World) : Prop := w.cell? ⟨tb, 1, none⟩ = some (.string (strN t.text)) ∧ w.cell? ⟨tb, 3, none⟩ = some (.int .i64 t.place)
theorem OneS.of {tb : Nat} {t : Tok} {w w' : World} (h : OneS tb t w) (h1 : w'.heap[tb]? = w.heap[tb]?) : OneS tb t w' :=
  ⟨by rw [World.cell?_of_block (a := ⟨tb, 1, none⟩) h1]; exact h.1, by rw [World.cell?_of_block (a := ⟨tb, 3, none⟩) h1]; exact h.2⟩
theorem oneS_sees {z : Nat} {e o : Par Ex} {ts : List Tok} (t : Tok) (ht : peekT z ts = t) : oneS z e o ts = if seesT z sOne ts then (o ts.tail).bind fun x r => .ok (.mk 7 0 t.text [x] t.place) r else primaryP z e ts := by
  subst ht
  rfl
/-- one expression in a block of its own -/
theorem exs_one {w' : World} {D : Nat → Prop} {b : Nat} {x : Ex} {k : Value} (hb : w'.heap[b]? = some (exO x k)) (hlo : D b) (hx : ExsC w' D x.kids k) : ExsC w' D [x] (.slice (some ⟨b, 0, none⟩) 1 1) := by
  refine .mk [x] [k] _ rfl ⟨_, _, rfl, Nat.le_refl _, by unfold maxLen; simp, (fun e => by cases e), fun j u hu => ⟨_, rfl, hlo, ?_⟩⟩ fun i e q he hq => ?_
  · rw [Addr.add_lit, cell_of_row _ _ _ _ _ _ hb, Nat.zero_add]
    simpa [exsC, exC] using hu
  · rcases i with _ | i
    · simp at he hq
      subst he hq
      exact hx
    · simp at he

set_option maxHeartbeats 3200000 in
theorem one (R : Nat) (S : Src) (d : Nat) (hd : d ≤ 32) (e o : Par Ex) (he : ExprOk R S (d + 1) e) (hT : Takes e) (ho : d + 1 ≤ 32 → OneOk R S (d + 1) o) (hbad : 32 < d + 1 → ∀ ts, o ts = failT S.z 42 ts) (hsm : S.all.length ≤ 4096) (ts : List Tok) (w : World) (ha : At w R S ts) :
    Calls Tryd.prog 87 #[.pointer (some ⟨R, 0, none⟩), .int .i64 d] w (Got R S (QE w.heap.size) w (oneS S.z e o ts)) := by
  have hR := ha.lt
  have hcast : ((d + 1 : Nat) : Int) = (d : Int) + 1 := rfl
  have H0 := Lib.hid (Res0.start ha [.int .i64 0, .int .i64 0, .string ⟨#[]⟩, .slice none 0 0, .int .i64 0] 39)
  have s0 : (w.alloc (.cells #[.int .i64 0, .int .i64 0, .string ⟨#[]⟩, .slice none 0 0, .int .i64 0] 39)).heap.size = w.heap.size + 1 := by simp
  have K := Lib.hid (sees_own R S ts sOne _ #[.string ⟨#[45]⟩, .string ⟨#[33]⟩] (by rw [show (⟨#[45]⟩ : ByteArray) = strN [45] by kernel_rfl, show (⟨#[33]⟩ : ByteArray) = strN [33] by kernel_rfl]; rfl) 2 rfl (by omega) H0.out.at' (by simp [sOne]; unfold Byn; decide))
  rw [show (w.alloc (.cells ([.int .i64 0, .int .i64 0, .string ⟨#[]⟩, .slice none 0 0, .int .i64 0] : List Value).toArray 39)).heap.size = w.heap.size + 1 from s0] at K
  have HP := Lib.hid (fun w1 h => primary R S d hd e he hT hsm ts w1 h)
  have HO := Lib.hid ho
  have HB := Lib.hid hbad
  obtain ⟨t, ht⟩ : ∃ t, peekT S.z ts = t := ⟨_, rfl⟩
  have HW := Lib.hid (oneS_sees (e := e) (o := o) t ht)
  have HPT := Lib.hid ht
  clear ha he hT ht ho hbad
  generalize oneS S.z e o ts = m at *
  cases hs : seesT S.z sOne ts with
  | false =>
    rw [hs] at K HW
    clear hs
    go_enter Tryd.func87, Tryd.ntmps87
    go_wp2_with fail
    generalize w.alloc (.cells #[.int .i64 0, .int .i64 0, .string ⟨#[]⟩, .slice none 0 0, .int .i64 0] 39) = w0 at *
    refine K.out.mono ?_
    clear K
    rintro e' w1 ⟨rfl, hb1, ha1⟩
    have H1 := Lib.hid (H0.out.below hb1 (by omega))
    have K := Lib.hid (HP.out _ H1.out.at')
    have HW2 : Hid (m = primaryP S.z e ts) := by show _ = _; rw [HW.out]; rfl
    clear hb1 ha1
    go_wp2_with fail
    refine K.out.mono ?_
    clear K
    rintro e' wl ⟨hm, ⟨x, rl, xv, hr, rfl, hq, hal⟩ | ⟨c, q, hr, rfl⟩⟩
    · obtain ⟨k, rfl, hx, _⟩ := exV_cells hq
      obtain ⟨A, cp, rfl⟩ := exsC_slice hx
      have HL := Lib.hid (H1.out.moves hm hal hR)
      have HX := Lib.hid hx
      have hlt := H1.out.lt
      have HR := Lib.hid hr
      clear hm hal hq hr hx
      go_wp2_with (refine wpList_storeN info39s rfl (.tmp 4) (.tmp 12) rfl rfl w.heap.size rfl [_, _, _, _, _] rfl rfl HL.out.th (by simp [Value.oneCell']) ?_; intro w7 g1 g2 g3 g4 g5)
      refine bodyPost_ret (ret_cell (cs := [_, _, _, _, _]) Tryd.results87 Tryd.underlying39 rfl info39s _ _ w.heap.size rfl g1) rfl ?_
      refine .ok (HL.out.mv.low g3 (Nat.le_refl _)) (by rw [HW2.out, HR.out]) ⟨_, rfl, ?_⟩ (HL.out.at'.other hR g4)
      exact (HX.out.same fun q h => g4 q (by have := h.1; omega)).more fun q h => ⟨by have := h.1; omega, by rw [g5]; exact h.2⟩
    · have HQ := Lib.hid (H1.out.mv.trans hm)
      clear hm
      go_wp2
      exact ⟨rfl, .bad HQ.out (by rw [HW2.out, hr])⟩
  | true =>
    have HS := Lib.hid hs
    rw [hs] at K HW
    clear hs
    have htk := takeT_sees HS.out
    go_enter Tryd.func87, Tryd.ntmps87
    go_wp2_with fail
    generalize w.alloc (.cells #[.int .i64 0, .int .i64 0, .string ⟨#[]⟩, .slice none 0 0, .int .i64 0] 39) = w0 at *
    refine K.out.mono ?_
    clear K
    rintro e' w1 ⟨rfl, hb1, ha1⟩
    have H1 := Lib.hid (H0.out.below hb1 (by omega))
    have K := Lib.hid (take R S ts 4 _ H1.out.at' (by omega))
    rw [htk, HPT.out] at K
    have HW2 : Hid (m = (o ts.tail).bind fun x r => .ok (.mk 7 0 t.text [x] t.place) r) := by show _ = _; rw [HW.out]; rfl
    clear hb1 ha1 htk
    go_wp2_with fail
    refine K.out.mono ?_
    clear K
    rintro e' w2 ⟨hm, ⟨t', r, xv, hr, rfl, hq, ha2⟩ | ⟨c, q, hr, rfl⟩⟩
    · injection hr with e1 e2
      subst e1 e2
      have H2 := H1.out.moves hm ha2 hR
      have bt := below_alloc w2 (tokO t)
      have H3 := Lib.hid (H2.below bt (Nat.le_refl _))
      have T3 := Lib.hid (heap_alloc_new w2 (tokO t))
      have s2 := H2.lt
      have hR2 := H2.at'.lt
      have s3 : (w2.alloc (tokO t)).heap.size = w2.heap.size + 1 := by simp
      subst hq
      clear hm ha2 H2 bt
      simp only [tokV, tokC]
      by_cases hdd : d + 1 ≤ 32
      · have K := Lib.hid (bound_ok R (d + 1) (w2.alloc (tokO t)) hdd)
        rw [hcast] at K
        have K2 := Lib.hid (HO.out hdd)
        clear hdd
        go_wp2_with (go_at_call 54; refine K.out.mono ?_; rintro e' w4 ⟨rfl, rfl⟩)
        generalize w2.alloc (tokO t) = wt at *
        clear K
        obtain ⟨q0, q1, q2, q3⟩ := tok_cells T3.out
        have HS3 : Hid (OneS w2.heap.size t wt) := ⟨q1, q3⟩
        have HSd : Hid (∀ w', OneS w2.heap.size t w' → w'.cell? ⟨w2.heap.size, 1, none⟩ = some (.string (strN t.text)) ∧ w'.cell? ⟨w2.heap.size, 3, none⟩ = some (.int .i64 t.place)) := fun w' h => h
        clear q0 q1 q2 q3
        have hwrap : IntKind.i64.wrap ((d : Int) + 1) = (d : Int) + 1 := IntWalk.i64_in _ (by omega)
        refine wp_region_held_drew (S := OneS w2.heap.size t) (by kernel_rfl) (HS3.out.of rfl) (fun hHeld => ?_)
        refine wpAnyH_take (i := 0) (v := ?v0) rfl (by kernel_rfl) (by kernel_rfl) (by kernel_rfl) (fun _ _ _ h => h) (Or.inl ⟨by kernel_rfl, ?y0⟩) (by assumption) ?r0
        case y0 => (intro w hSw; (try dsimp only at hSw); go_simp; (try with_reducible rfl))
        try simp only [Act.put, List.getElem_toArray, List.getElem_cons_zero, List.getElem_cons_succ, List.setIfInBounds_toArray, List.set_cons_zero, List.set_cons_succ]
        refine wpAnyH_take (i := 1) (v := ?v1) rfl (by kernel_rfl) (by kernel_rfl) (by kernel_rfl) (fun _ _ _ h => h) (Or.inl ⟨by kernel_rfl, ?y1⟩) (by assumption) ?r1
        case y1 => (intro w hSw; obtain ⟨q1, q2⟩ := HSd.out _ hSw; (try dsimp only at hSw); go_simp; (try with_reducible rfl))
        try simp only [Act.put, List.getElem_toArray, List.getElem_cons_zero, List.getElem_cons_succ, List.setIfInBounds_toArray, List.set_cons_zero, List.set_cons_succ]
        refine wpAnyH_take (i := 2) (v := ?v2) rfl (by kernel_rfl) (by kernel_rfl) (by kernel_rfl) (fun _ _ _ h => h) (Or.inl ⟨by kernel_rfl, ?y2⟩) (by assumption) ?r2
        case y2 => (intro w hSw; (try dsimp only at hSw); go_simp; (try with_reducible rfl))
        try simp only [Act.put, List.getElem_toArray, List.getElem_cons_zero, List.getElem_cons_succ, List.setIfInBounds_toArray, List.set_cons_zero, List.set_cons_succ]
        refine wpAnyH_take (i := 3) (v := ?v3) rfl (by kernel_rfl) (by kernel_rfl) (by kernel_rfl) (fun _ _ _ h => h) (Or.inl ⟨by kernel_rfl, ?y3⟩) (by assumption) ?r3
        case y3 => (intro w hSw; (try dsimp only at hSw); go_simp; (try with_reducible rfl))
        try simp only [Act.put, List.getElem_toArray, List.getElem_cons_zero, List.getElem_cons_succ, List.setIfInBounds_toArray, List.set_cons_zero, List.set_cons_succ]
        refine wpAnyH_take (i := 4) (v := ?v4) rfl (by kernel_rfl) (by kernel_rfl) (by kernel_rfl) (fun _ _ _ h => h) (Or.inl ⟨by kernel_rfl, ?y4⟩) (by assumption) ?r4
        case y4 => (intro w hSw; (try dsimp only at hSw); go_simp; (try with_reducible rfl))
        try simp only [Act.put, List.getElem_toArray, List.getElem_cons_zero, List.getElem_cons_succ, List.setIfInBounds_toArray, List.set_cons_zero, List.set_cons_succ]
        refine wpAnyH_take (i := 7) (v := ?v7) rfl (by kernel_rfl) (by kernel_rfl) (by kernel_rfl) (fun _ _ _ h => h) (Or.inl ⟨by kernel_rfl, ?y7⟩) (by assumption) ?r7
        case y7 => (intro w hSw; (try dsimp only at hSw); go_simp; (try with_reducible rfl))
        try simp only [Act.put, List.getElem_toArray, List.getElem_cons_zero, List.getElem_cons_succ, List.setIfInBounds_toArray, List.set_cons_zero, List.set_cons_succ]
        refine wpAnyH_take (i := 8) (v := ?v8) rfl (by kernel_rfl) (by kernel_rfl) (by kernel_rfl) (fun _ _ _ h => h) (Or.inl ⟨by kernel_rfl, ?y8⟩) (by assumption) ?r8
        case y8 => (intro w hSw; obtain ⟨q1, q2⟩ := HSd.out _ hSw; (try dsimp only at hSw); go_simp; (try with_reducible rfl))
        try simp only [Act.put, List.getElem_toArray, List.getElem_cons_zero, List.getElem_cons_succ, List.setIfInBounds_toArray, List.set_cons_zero, List.set_cons_succ]
        have H3d := Lib.hid (H3.out.below ((Below.refl wt.heap.size wt).drew) (Nat.le_refl _))
        have K3 := Lib.hid (K2.out wt.drew ts.tail H3d.out.at')
        rw [hcast] at K3
        refine wpAnyH_ready (rs := [5]) (by kernel_rfl) (by simp) ?_
        refine AllReadyH.cons rfl (fun K hK => ?_) AllReadyH.nil
        go_simp
        refine K3.out.mono ?_
        clear K3
        rintro e' w5 ⟨hm, ⟨y, r5, yv, hr, rfl, hq, ha5⟩ | ⟨c, q, hr, rfl⟩⟩
        · obtain ⟨k, rfl, hk, _⟩ := exV_cells hq
          have H5 := H3d.out.moves hm ha5 hR
          have s5 : wt.heap.size ≤ w5.heap.size := hm.size
          have hS5 : OneS w2.heap.size t w5 := HS3.out.of (hm.block' (w := wt.drew) (by show w2.heap.size < wt.heap.size; omega) (by omega))
          have HR := Lib.hid hr
          have HK := Lib.hid hk
          have HH5 := Lib.hid H5
          clear hm ha5 hq hr hk H5 hHeld
          refine hK.out _ _ hS5 (fun hHeld => ?_)
          clear hK K
          refine wpAnyH_ready (rs := [6]) (by kernel_rfl) (by simp) ?_
          refine AllReadyH.cons rfl (fun K hK => ?_) AllReadyH.nil
          go_simp
          have bz := below_alloc w5 (exO y k)
          have H6 := Lib.hid (HH5.out.below bz (Nat.le_refl _))
          have HZ := Lib.hid (heap_alloc_new w5 (exO y k))
          have hS6 := hS5.of (bz.block w2.heap.size (by omega))
          have X6 := Lib.hid (HK.out.same (fun q h => bz.block q h.2))
          have s6 : (w5.alloc (exO y k)).heap.size = w5.heap.size + 1 := by simp
          generalize w5.alloc (exO y k) = w6 at *
          refine hK.out _ _ hS6 (fun hHeld => ?_)
          clear hK K hS5 bz
          refine wpAnyH_take (i := 9) (v := ?v9) rfl (by kernel_rfl) (by kernel_rfl) (by kernel_rfl) (fun _ _ _ h => h) (Or.inl ⟨by kernel_rfl, ?y9⟩) (by assumption) ?r9
          case y9 => (intro w hSw; (try dsimp only at hSw); go_simp; (try with_reducible rfl))
          try simp only [Act.put, List.getElem_toArray, List.getElem_cons_zero, List.getElem_cons_succ, List.setIfInBounds_toArray, List.set_cons_zero, List.set_cons_succ]
          refine wpAnyH_ready (rs := [10]) (by kernel_rfl) (by simp) ?_
          refine AllReadyH.cons rfl (fun K hK => ?_) AllReadyH.nil
          rw [if_pos (by rfl)]
          refine wp_store_mid 39 (.tmp 4) (.tmp 28) rfl w.heap.size 0 #[_, _, _, _, _] rfl rfl H6.out.th info39s (by simp [Value.oneCell']) ?_
          have hb := below_cells w.heap.size 0 [.int .i64 7, .int .i64 0, .string (strN t.text), .slice (some ⟨w5.heap.size, 0, none⟩) 1 1, .int .i64 t.place] w6
          have hrg := World.rangeAt_setCells_same w6 w.heap.size 0 [.int .i64 7, .int .i64 0, .string (strN t.text), .slice (some ⟨w5.heap.size, 0, none⟩) 1 1, .int .i64 t.place] H6.out.th
          change K _ (w6.setCells w.heap.size 0 [.int .i64 7, .int .i64 0, .string (strN t.text), .slice (some ⟨w5.heap.size, 0, none⟩) 1 1, .int .i64 t.place])
          generalize w6.setCells w.heap.size 0 [.int .i64 7, .int .i64 0, .string (strN t.text), .slice (some ⟨w5.heap.size, 0, none⟩) 1 1, .int .i64 t.place] = w7 at *
          refine hK.out _ _ (hHeld.of (hb.2.1 _ (by omega))) (fun _ => ?_)
          clear hK K hHeld hS6
          refine wpAnyH_done (by kernel_rfl) ?_ _
          have HB7 := Lib.hid hb
          clear hb
          go_wp2
          refine bodyPost_ret (ret_cell (cs := [_, _, _, _, _]) Tryd.results87 Tryd.underlying39 rfl info39s _ _ w.heap.size rfl hrg) rfl ?_
          have s7 := HB7.out.2.2
          have sx : Same (Rng wt.drew.heap.size w5.heap.size) w6 w7 := fun q h1 => HB7.out.2.1 q (by have : wt.heap.size ≤ q := h1.1; omega)
          refine .ok (H6.out.mv.low HB7.out.1 (Nat.le_refl _)) (by rw [HW2.out, HR.out]; rfl) ⟨.slice (some ⟨w5.heap.size, 0, none⟩) 1 1, rfl, ?_⟩ (H6.out.at'.other hR HB7.out.2.1)
          show ExsC w7 _ [y] _
          refine exs_one (by rw [HB7.out.2.1 _ (by omega)]; exact HZ.out) ⟨by omega, by omega⟩ ((X6.out.same sx).more fun k h => ⟨?_, ?_⟩)
          · have : wt.heap.size ≤ k := h.1
            omega
          · have : k < w5.heap.size := h.2
            omega
        · have HQ := H3d.out.mv.trans hm
          exact ⟨rfl, .bad HQ (by rw [HW2.out, hr]; rfl)⟩
      · have K := Lib.hid (bound_bad R S ts.tail (w2.alloc (tokO t)) H3.out.at' (d + 1) (by omega))
        rw [hcast] at K
        have HF := Lib.hid (HB.out (by omega) ts.tail)
        clear hdd
        go_wp2_with (go_at_call 54; refine K.out.mono ?_; rintro e' w4 ⟨rfl, hb4⟩)
        exact ⟨rfl, .bad (H3.out.mv.below hb4 (Nat.le_refl _)) (by rw [HW2.out, HF.out]; rfl)⟩
    · cases hr
end Go.Proofs.YtoicncfpoklanaaDoor
