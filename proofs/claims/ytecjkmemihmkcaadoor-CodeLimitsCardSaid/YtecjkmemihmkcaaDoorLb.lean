/- The walk of CodeLimits, its first half: plain facts, and the row of texts with one too long. Conditions: those in each theorem. -/
import Derived.Test.YtecjkmemihmkcaaDoorLa
namespace Go.Proofs.YtecjkmemihmkcaaDoor
set_option maxRecDepth 100000
open Go.RowKit
set_option linter.unusedSimpArgs false
set_option linter.unusedVariables false

theorem step_make_full {P : Program} (w : World) {ops : Array Oper} {o : Oper} {a : Act} {K : Act → World → Prop} {Q : Exit → Act → World → Prop} {E : Prop}
    (hg : o.guard = none) (l c : Operand) (t : TypeId) (hop : o.op = Op.makeSlice t l c)
    (base : Nat) (e : TypeId) (i : TypeInfo) (z : Value) (size : Nat) (h1 : P.underlying t = some (.slice e)) (h2 : P.info? e = some i) (h3 : i.zero = some z) (h4 : i.size = size)
    (kl kc : IntKind) (L C : Int) (n : Nat) (hl : a.eval l = .int kl L) (hc : a.eval c = .int kc C) (hL : L = (n : Int)) (hC : C = (n : Int)) (b2 : i.bytes * n ≤ 281474976710656) (b3 : n ≤ maxLen) (b4 : base ≤ w.heap.size)
    (hK : ∀ w', w'.ownsRow base e size (.slice (some ⟨w.heap.size, 0, none⟩) n n) n (madeCells z.cells (n * size)).toList → w.grownBy w' none → K (a.put o.dst (.slice (some ⟨w.heap.size, 0, none⟩) n n)) w') :
    if Region.wanted o (yielded ops a.tmps) = true then Oper.wp P o a w K Q else E := by
  have hw : Region.wanted o (yielded ops a.tmps) = true := by simp [Region.wanted, hg]
  rw [if_pos hw]
  obtain ⟨w', hrun, r1, r2⟩ := run_make_full (P := P) w base t e i z size h1 h2 h3 h4 kl kc n b2 b3 b4
  subst hL
  subst hC
  unfold Oper.wp
  simp [execOp, hop, hl, hc, hrun, Result.andThen]
  exact hK w' r1 r2
theorem info26c : (Tryd.prog.info? 26).map (fun i => (i.zero, i.size, i.bytes)) = some (some (.slice none 0 0), 1, 24) := by kernel_rfl
theorem zero_row {w : World} {base g : Nat} (h : w.ownsRow base 5 1 (.slice (some ⟨g, 0, none⟩) 65 65) 65 (madeCells (Value.int .u8 0).cells (65 * 1)).toList) : RowT w 5 65 (cellsOf (List.replicate 65 0)) (.slice (some ⟨g, 0, none⟩) 65 65) := by
  have := RowT.own h
  rw [show (Value.int .u8 0).cells = #[.int .u8 0] from rfl, toList_madeCells_one] at this
  simpa [cellsOf] using this
/-- a grid's cells -/
def CellsG (w : World) (B : Nat) (ls : List (List Int)) (vt : List Value) : Prop := ∀ (i : Nat) (l : List Int), ls[i]? = some l → ∃ A' c', vt[i]? = some (.slice A' l.length c') ∧ l.length ≤ c' ∧ c' ≤ maxLen ∧ Lies w B A' c' (cellsOf l)
theorem grid_cells {w : World} {B : Nat} {A : Option Addr} {c : Nat} {ls : List (List Int)} (h : Grid w B A c ls) : ∃ vt, vt.length = ls.length ∧ Lies w B A c vt ∧ (∀ u ∈ vt, u.oneCell' = true) ∧ CellsG w B ls vt := by
  refine ⟨(List.range ls.length).map (fun i => match A with | some ad => (w.cell? (ad.add i)).getD undef | none => undef), by simp, ⟨h.1, fun j u hu => ?_⟩, fun u hu => ?_, fun i l hl => ?_⟩
  · simp only [List.getElem?_map, Option.map_eq_some_iff, List.getElem?_range', List.getElem?_eq_some_iff, List.getElem_range, List.length_range] at hu
    obtain ⟨k, ⟨hk, rfl⟩, rfl⟩ := hu
    obtain ⟨ad, A', c', rfl, hB, hc, _⟩ := h.2 j _ (List.getElem?_eq_getElem hk)
    exact ⟨ad, rfl, hB, by simp only [hc, Option.getD_some]⟩
  · simp only [List.mem_map, List.mem_range] at hu
    obtain ⟨k, hk, rfl⟩ := hu
    obtain ⟨ad, A', c', rfl, hB, hc, _⟩ := h.2 k _ (List.getElem?_eq_getElem hk)
    simp only [hc, Option.getD_some]
    rfl
  · obtain ⟨ad, A', c', rfl, hB, hc, g1, g2, g3⟩ := h.2 i l hl
    have hi : i < ls.length := (List.getElem?_eq_some_iff.1 hl).1
    refine ⟨A', c', ?_, g1, g2, g3⟩
    simp [hi, hc]
theorem CellsG.len {w : World} {B : Nat} {ls : List (List Int)} {vt : List Value} (h : CellsG w B ls vt) : True := trivial
/-- the texts with one more -/
theorem more_texts {w1 x : World} {ls : List (List Int)} {vt : List Value} {v z : Value} {s : List Int} (hG : CellsG w1 w1.heap.size ls vt) (hl : vt.length = ls.length) (hb : Below w1.heap.size w1 x) {n : Nat} (hn : n = ls.length + 1)
    (ho : x.ownsRow w1.heap.size 26 1 v n ([] ++ vt ++ [z])) {k : Nat} (hk : s.length = k) (hz : RowT x 5 k (cellsOf s) z) : GridV x x.heap.size (ls ++ [s]) v := by
  obtain ⟨A, cc, rfl, h1, h2, h3⟩ := (RowT.own ho).lies
  subst hn
  refine ⟨A, cc, by simp, by simpa using h1, h2, h3.1, fun i l hil => ?_⟩
  have hx : ∃ A' c', ([] ++ vt ++ [z])[i]? = some (.slice A' l.length c') ∧ l.length ≤ c' ∧ c' ≤ maxLen ∧ Lies x x.heap.size A' c' (cellsOf l) := by
    by_cases hi : i < ls.length
    · rw [List.getElem?_append_left hi] at hil
      obtain ⟨A', c', g1, g2, g3, g4⟩ := hG i l hil
      refine ⟨A', c', ?_, g2, g3, (g4.below hb).more hb.size⟩
      rw [List.nil_append, List.getElem?_append_left (by omega)]
      exact g1
    · have hlen := (List.getElem?_eq_some_iff.1 hil).1
      rw [List.length_append, List.length_singleton] at hlen
      obtain rfl : i = ls.length := by omega
      rw [List.getElem?_append_right (by omega), Nat.sub_self] at hil
      injection hil with hil
      subst hil
      subst hk
      obtain ⟨A', c', rfl, g2, g3, g4⟩ := hz.lies
      refine ⟨A', c', ?_, g2, g3, g4⟩
      rw [List.nil_append, List.getElem?_append_right (by omega), hl, Nat.sub_self]
      rfl
  obtain ⟨A', c', g1, g2, g3, g4⟩ := hx
  obtain ⟨ad, rfl, hB, hc⟩ := h3.2 i _ g1
  exact ⟨ad, A', c', rfl, hB, hc, g2, g3, g4⟩

theorem insV_zeros : ∀ n : Nat, insV (List.replicate n (0, 0)) = List.replicate (n * 2) (.int .i64 0)
  | 0 => rfl
  | n + 1 => by
    have := insV_zeros n
    rw [show (n + 1) * 2 = n * 2 + 1 + 1 by omega, List.replicate_succ, List.replicate_succ, List.replicate_succ, ← this]
    rfl
theorem made_zeros (n : Nat) : (madeCells (Value.agg #[.int .i64 0, .int .i64 0]).cells (n * 2)).toList = List.replicate (n * 2) (.int .i64 0) := by
  apply List.ext_getElem?
  intro j
  by_cases hj : j < n * 2
  · have h2 : j % 2 = 0 ∨ j % 2 = 1 := by omega
    rcases h2 with h2 | h2 <;> simp [madeCells, Value.cells, hj, h2]
  · simp [madeCells, hj]
/-- an operation whose guard says yes goes as one that has none -/
theorem wpList_wanted {P : Program} {ops : Array Oper} {Q : Exit → Act → World → Prop} {rest : List Oper} {o : Oper} {a : Act} {w : World} (hw : Region.wanted o (yielded ops a.tmps) = true)
    (h : wpList P ops Q ({ o with guard := none } :: rest) a w) : wpList P ops Q (o :: rest) a w := by
  unfold wpList at h ⊢
  have hw' : Region.wanted { o with guard := none } (yielded ops a.tmps) = true := rfl
  rw [if_pos hw]
  rw [if_pos hw'] at h
  exact h
/-- right modules with one code more -/
theorem ok_more {m : Md} {c : Cd} (h : okMd m = true) (hn : m.codes.length ≤ 40) : okMd ⟨m.codes ++ [c], m.texts⟩ = okCd c := by
  have hk := h
  simp only [okMd, Bool.and_eq_true, decide_eq_true_eq] at hk
  simp only [okMd, List.length_append, List.length_singleton, List.all_append, List.all_cons, List.all_nil, Bool.and_true]
  rw [hk.2.2.1, hk.2.2.2, decide_eq_true (by omega), decide_eq_true hk.2.1]
  simp
theorem not_longer (m : Md) : okMd ⟨m.codes, m.texts ++ [List.replicate 65 0]⟩ = false := by
  simp only [okMd, List.all_append, List.all_cons, List.all_nil, Bool.and_true]
  have : okX (List.replicate 65 0) = false := by decide
  rw [this]
  simp

set_option maxHeartbeats 3200000 in
theorem limits_walk (m : Md) (V : Value) (w : World) (h : ModV w w.heap.size m V) (ht : Tab w) : Calls Tryd.prog 9 #[V] w (Says true w) := by
  have HM := Lib.hid h
  have HT := Lib.hid ht
  have h0 := ht.1
  obtain ⟨C, T, rfl, hC, hT⟩ := h
  obtain ⟨AC, cC, vs, rfl, p1, p2, p3, p4⟩ := hC
  obtain ⟨AT, cT, rfl, q1, q2, q3⟩ := hT
  have HL := Lib.hid p3
  have HS := Lib.hid p4
  have HG := Lib.hid q3
  clear p3 p4 q3 ht
  unfold maxLen at p2 q2
  have X0 := Lib.hid (Bx.start w (.slice AC m.codes.length cC) (.slice AT m.texts.length cT))
  have K := Lib.hid (head_true _ (HT.out.below X0.out.low h0))
  go_enter Tryd.func9, Tryd.ntmps9
  go_wp2_with fail
  refine K.out.mono ?_
  clear K
  rintro e w1 ⟨rfl, hb1⟩
  have X1 := Lib.hid (X0.out.on hb1)
  obtain ⟨c0, c1⟩ := X1.out.cells
  have K := Lib.hid (great m _ w1 (X1.out.mod HM.out))
  clear hb1
  go_wp2_with fail
  refine K.out.mono ?_
  clear K c0 c1
  rintro e w2 ⟨b, rfl, hb2⟩
  have X2 := Lib.hid (X1.out.on hb2)
  clear hb2
  cases b with
  | true =>
    go_wp2
    go_ret
    exact ⟨rfl, X2.out.low⟩
  | false =>
    obtain ⟨c0, c1⟩ := X2.out.cells
    have K := Lib.hid (right m _ w2 (X2.out.mod HM.out))
    go_wp2_with fail
    refine K.out.mono ?_
    clear K c0 c1
    rintro e w3 ⟨rfl, hb3⟩
    have X3 := Lib.hid (X2.out.on hb3)
    clear hb3
    cases hok : okMd m with
    | false =>
      clear hok
      go_wp2
      go_ret
      exact ⟨rfl, X3.out.low⟩
    | true =>
      obtain ⟨c0, c1⟩ := X3.out.cells
      have HOK := Lib.hid hok
      have htl := (okMd_is hok).2.1
      clear hok
      by_cases hn : (m.codes.length : Int) > 40
      · have hn2 : ((m.codes.length : Int) > 40) = True := by simp [hn]
        go_wp2
        go_ret
        exact ⟨rfl, X3.out.low⟩
      · have hn3 : ¬ ((40 : Int) < (m.codes.length : Int)) := by omega
        have HNL : Hid (m.codes.length ≤ 40) := Lib.hid (by omega)
        clear hn
        go_upto_region 5 with fail
        clear hn3 c0 c1
        generalize w3 = w1 at *
        rename_i _
        go_cut [5] (fun t wx => Below w1.heap.size w1 wx ∧ GridV wx wx.heap.size (m.texts ++ [List.replicate 65 0]) t)
        case first =>
          obtain ⟨i0, hi, hz0, hz1, hz2⟩ := info_parts info26c
          obtain ⟨i5, hi5, hy0, hy1, hy2⟩ := info_parts info5
          have HG2 : Hid (Grid w1 w1.heap.size AT cT m.texts) := Lib.hid ((HG.out.below X3.out.low).more X3.out.low.size)
          obtain ⟨vt, hvl, hvt, hv1, hvg⟩ := grid_cells HG2.out
          have HLN : Hid (vt.length = m.texts.length * 1) := Lib.hid (by omega)
          have HL1 := Lib.hid hvt
          have HON := Lib.hid hv1
          have HG1 := Lib.hid hvg
          have HVL := Lib.hid hvl
          have D0 : Hid (Below w1.heap.size w1 w1.drew) := ((Below.refl _ _).drew)
          have SA : Hid (∀ x, Below w1.heap.size w1 x → x.cell? ⟨w.heap.size, 0, none⟩ = some (.slice AC m.codes.length cC) ∧ x.cell? ⟨w.heap.size, 1, none⟩ = some (.slice AT m.texts.length cT)) := fun x hx => (X3.out.on hx).cells
          clear hvl hvt hv1 hvg HG2
          refine wp_region_noPanic ?_
          refine wp_region_held_drew (S := fun x => x.cell? ⟨w.heap.size, 0, none⟩ = some (.slice AC m.codes.length cC) ∧ x.cell? ⟨w.heap.size, 1, none⟩ = some (.slice AT m.texts.length cT)) (by kernel_rfl) (SA.out _ D0.out) (fun hHeld => ?_)
          have L0 := Lib.hid D0.out
          clear D0
          generalize w1.drew = x0 at *
          refine wpAnyH_take (i := 1) (v := ?v1_1) rfl (by kernel_rfl) (by kernel_rfl) (by kernel_rfl) (fun _ _ _ h => h) (Or.inl ⟨by kernel_rfl, ?y1_1⟩) (by assumption) ?r1_1
          case y1_1 => (intro w hSw; (try dsimp only at hSw); go_simp; (try with_reducible rfl))
          try simp only [Act.put, List.getElem_toArray, List.getElem_cons_zero, List.getElem_cons_succ, List.setIfInBounds_toArray, List.set_cons_zero, List.set_cons_succ]
          refine wpAnyH_take (i := 2) (v := ?v2_2) rfl (by kernel_rfl) (by kernel_rfl) (by kernel_rfl) (fun _ _ _ h => h) (Or.inl ⟨by kernel_rfl, ?y2_2⟩) (by assumption) ?r2_2
          case y2_2 => (intro w hSw; (try dsimp only at hSw); go_simp; (try with_reducible rfl))
          try simp only [Act.put, List.getElem_toArray, List.getElem_cons_zero, List.getElem_cons_succ, List.setIfInBounds_toArray, List.set_cons_zero, List.set_cons_succ]
          refine wpAnyH_ready (rs := [0, 4]) (by kernel_rfl) (by simp) ?_
          refine AllReadyH.cons rfl (fun K hK => ?_) (AllReadyH.cons rfl (fun K hK => ?_) AllReadyH.nil)
          · go_simp
            have hb := (Below.refl x0.heap.size x0).alloc (Nat.le_refl _) (.cells #[] 26)
            have h5 : (x0.alloc (.cells #[] 26)).heap[x0.heap.size]? = some (.cells #[] 26 (0, 0)) := heap_alloc_new x0 _
            have hg4 : w1.heap.size ≤ x0.heap.size := L0.out.size
            have hs4 : (x0.alloc (.cells #[] 26)).heap.size = x0.heap.size + 1 := World.size_alloc _ _
            have hlt : x0.heap.size ≤ x0.heap.size := Nat.le_refl _
            generalize hy : x0.alloc (.cells #[] 26) = x1 at *
            generalize hgg : x0.heap.size = g24 at *
            clear hlt
            have HS4 := Lib.hid hs4
            clear hs4
            have L1 := Lib.hid (L0.out.trans (hb.mono (by omega)))
            have E1 := Lib.hid (own_lit0 26 1 h5 hg4)
            clear h5 hb hy
            refine hK.out _ _ (SA.out _ L1.out) (fun hHeld => ?_)
            clear hK K
            try simp only [Act.put, List.getElem_toArray, List.getElem_cons_zero, List.getElem_cons_succ, List.setIfInBounds_toArray, List.set_cons_zero, List.set_cons_succ]
            refine wpAnyH_ready (rs := [3, 4]) (by kernel_rfl) (by simp) ?_
            refine AllReadyH.cons rfl (fun K hK => ?_) (AllReadyH.cons rfl (fun K hK => ?_) AllReadyH.nil)
            · refine step_append_gro x1 rfl (.tmp 24) (.tmp 26) 23 rfl w1.heap.size 26 i0 _ 1 24 Tryd.underlying23 hi hz0 hz1 hz2 rfl (by omega) _ 0 [] rfl E1.out w1.heap.size AT m.texts.length cT vt rfl HLN.out (HL1.out.below L1.out) HON.out (by unfold maxLen; omega) (by omega) L1.out.size ?_
              intro va x2 ho hg
              have L2 := Lib.hid (L1.out.trans (hg.below E1.out L1.out.size))
              have O2 := Lib.hid ho
              clear ho hg
              refine hK.out _ _ (SA.out _ L2.out) (fun hHeld => ?_)
              clear hK K
              try simp only [Act.put, List.getElem_toArray, List.getElem_cons_zero, List.getElem_cons_succ, List.setIfInBounds_toArray, List.set_cons_zero, List.set_cons_succ]
              refine wpAnyH_ready (rs := [4]) (by kernel_rfl) (by simp) ?_
              refine AllReadyH.cons rfl (fun K hK => ?_) AllReadyH.nil
              refine step_make_full x2 rfl _ _ 26 rfl w1.heap.size 5 i5 _ 1 Tryd.underlying26 hi5 hy0 hy1 .i64 .i64 65 65 65 rfl rfl rfl rfl (by rw [hy2]; omega) (by unfold maxLen; omega) L2.out.size ?_
              intro x3 ho hg
              have hb := (Below.refl x2.heap.size x2).grown hg (Nat.le_refl _) (fun k hk => by cases hk)
              have L3 := Lib.hid (L2.out.trans (hb.mono L2.out.size))
              have Z3 := Lib.hid (zero_row ho)
              have O3 := Lib.hid (own_below O2.out hb (Nat.le_refl _))
              generalize x2.heap.size = gz at *
              clear ho hg hb
              refine hK.out _ _ (SA.out _ L3.out) (fun hHeld => ?_)
              clear hK K
              try simp only [Act.put, List.getElem_toArray, List.getElem_cons_zero, List.getElem_cons_succ, List.setIfInBounds_toArray, List.set_cons_zero, List.set_cons_succ]
              refine wpAnyH_ready (rs := [5]) (by kernel_rfl) (by simp) ?_
              refine AllReadyH.cons rfl (fun K hK => ?_) AllReadyH.nil
              go_simp
              have hb := (Below.refl x3.heap.size x3).alloc (Nat.le_refl _) (.cells #[.slice (some ⟨gz, 0, none⟩) 65 65] 26)
              have h5 : (x3.alloc (.cells #[.slice (some ⟨gz, 0, none⟩) 65 65] 26)).heap[x3.heap.size]? = some (.cells #[.slice (some ⟨gz, 0, none⟩) 65 65] 26 (0, 0)) := heap_alloc_new x3 _
              have hg9 : w1.heap.size ≤ x3.heap.size := L3.out.size
              have hs9 : (x3.alloc (.cells #[.slice (some ⟨gz, 0, none⟩) 65 65] 26)).heap.size = x3.heap.size + 1 := World.size_alloc _ _
              have hne : va.ownBlock ≠ some x3.heap.size := own_not O3.out (Nat.le_refl _)
              generalize hy : x3.alloc (.cells #[.slice (some ⟨gz, 0, none⟩) 65 65] 26) = x4 at *
              have L4 := Lib.hid (L3.out.trans (hb.mono L3.out.size))
              have Z4 := Lib.hid (Z3.out.kept (KeptT.below hb (Nat.le_refl _)))
              have O4 := Lib.hid (own_below O3.out hb (Nat.le_refl _))
              generalize hgg : x3.heap.size = gr at *
              have P4 : Hid (Pk w1 w1.heap.size gr 26 #[.slice (some ⟨gz, 0, none⟩) 65 65] va x4) := Lib.hid ⟨h5, hne, L4.out, L4.out.size⟩
              clear h5 hb hy hs9
              clear hne
              refine hK.out _ _ (SA.out _ L4.out) (fun hHeld => ?_)
              clear hK K
              try simp only [Act.put, List.getElem_toArray, List.getElem_cons_zero, List.getElem_cons_succ, List.setIfInBounds_toArray, List.set_cons_zero, List.set_cons_succ]
              refine wpAnyH_ready (rs := [6]) (by kernel_rfl) (by simp) ?_
              refine AllReadyH.cons rfl (fun K hK => ?_) AllReadyH.nil
              refine step_append_gro x4 rfl (.tmp 27) (.tmp 29) 23 rfl w1.heap.size 26 i0 _ 1 24 Tryd.underlying23 hi hz0 hz1 hz2 rfl (by omega) _ (0 + m.texts.length) ([] ++ vt) rfl O4.out x4.heap.size (some ⟨gr, 0, none⟩) 1 1 [.slice (some ⟨gz, 0, none⟩) 65 65] rfl rfl (row_lies P4.out.box) (by simp [Value.oneCell']) (by unfold maxLen; omega) (by omega) L4.out.size ?_
              intro vz xz ho hg
              obtain ⟨Nz, hNz⟩ : ∃ n : Nat, n = 0 + m.texts.length + 1 := ⟨_, rfl⟩
              rw [← hNz] at ho
              have Lz := Lib.hid (L4.out.trans (hg.below O4.out L4.out.size))
              have GZ := Lib.hid (more_texts HG1.out HVL.out Lz.out (by omega) ho (s := List.replicate 65 0) rfl (Z4.out.kept (KeptT.grown O4.out hg.1 (by decide))))
              clear ho hg hNz
              refine hK.out _ _ (SA.out _ Lz.out) (fun hHeld => ?_)
              clear hK K
              try simp only [Act.put, List.getElem_toArray, List.getElem_cons_zero, List.getElem_cons_succ, List.setIfInBounds_toArray, List.set_cons_zero, List.set_cons_succ]
              refine wpAnyH_take (i := 7) (v := ?v7_3) rfl (by kernel_rfl) (by kernel_rfl) (by kernel_rfl) (fun _ _ _ h => h) (Or.inl ⟨by kernel_rfl, ?y7_3⟩) (by assumption) ?r7_3
              case y7_3 => (intro w hSw; (try dsimp only at hSw); go_simp; (try with_reducible rfl))
              try simp only [Act.put, List.getElem_toArray, List.getElem_cons_zero, List.getElem_cons_succ, List.setIfInBounds_toArray, List.set_cons_zero, List.set_cons_succ]
              refine wpAnyH_done (by kernel_rfl) ?_ _
              refine NoPanic.normal ?_
              clear hHeld
              go_wp2_with fail
              go_meet
              exact ⟨Lz.out, GZ.out⟩
            · refine step_make_full x1 rfl _ _ 26 rfl w1.heap.size 5 i5 _ 1 Tryd.underlying26 hi5 hy0 hy1 .i64 .i64 65 65 65 rfl rfl rfl rfl (by rw [hy2]; omega) (by unfold maxLen; omega) L1.out.size ?_
              intro x2 ho hg
              have hb := (Below.refl x1.heap.size x1).grown hg (Nat.le_refl _) (fun k hk => by cases hk)
              have L2 := Lib.hid (L1.out.trans (hb.mono L1.out.size))
              have Z2 := Lib.hid (zero_row ho)
              have E2 := Lib.hid (own_below E1.out hb (Nat.le_refl _))
              generalize x1.heap.size = gz at *
              clear ho hg hb
              refine hK.out _ _ (SA.out _ L2.out) (fun hHeld => ?_)
              clear hK K
              try simp only [Act.put, List.getElem_toArray, List.getElem_cons_zero, List.getElem_cons_succ, List.setIfInBounds_toArray, List.set_cons_zero, List.set_cons_succ]
              refine wpAnyH_ready (rs := [3, 5]) (by kernel_rfl) (by simp) ?_
              refine AllReadyH.cons rfl (fun K hK => ?_) (AllReadyH.cons rfl (fun K hK => ?_) AllReadyH.nil)
              · refine step_append_gro x2 rfl (.tmp 24) (.tmp 26) 23 rfl w1.heap.size 26 i0 _ 1 24 Tryd.underlying23 hi hz0 hz1 hz2 rfl (by omega) _ 0 [] rfl E2.out w1.heap.size AT m.texts.length cT vt rfl HLN.out (HL1.out.below L2.out) HON.out (by unfold maxLen; omega) (by omega) L2.out.size ?_
                intro va x3 ho hg
                have L3 := Lib.hid (L2.out.trans (hg.below E2.out L2.out.size))
                have O3 := Lib.hid ho
                have Z3 := Lib.hid (Z2.out.kept (KeptT.grown E2.out hg.1 (by decide)))
                clear ho hg
                refine hK.out _ _ (SA.out _ L3.out) (fun hHeld => ?_)
                clear hK K
                try simp only [Act.put, List.getElem_toArray, List.getElem_cons_zero, List.getElem_cons_succ, List.setIfInBounds_toArray, List.set_cons_zero, List.set_cons_succ]
                refine wpAnyH_ready (rs := [5]) (by kernel_rfl) (by simp) ?_
                refine AllReadyH.cons rfl (fun K hK => ?_) AllReadyH.nil
                go_simp
                have hb := (Below.refl x3.heap.size x3).alloc (Nat.le_refl _) (.cells #[.slice (some ⟨gz, 0, none⟩) 65 65] 26)
                have h5 : (x3.alloc (.cells #[.slice (some ⟨gz, 0, none⟩) 65 65] 26)).heap[x3.heap.size]? = some (.cells #[.slice (some ⟨gz, 0, none⟩) 65 65] 26 (0, 0)) := heap_alloc_new x3 _
                have hg9 : w1.heap.size ≤ x3.heap.size := L3.out.size
                have hs9 : (x3.alloc (.cells #[.slice (some ⟨gz, 0, none⟩) 65 65] 26)).heap.size = x3.heap.size + 1 := World.size_alloc _ _
                have hne : va.ownBlock ≠ some x3.heap.size := own_not O3.out (Nat.le_refl _)
                generalize hy : x3.alloc (.cells #[.slice (some ⟨gz, 0, none⟩) 65 65] 26) = x4 at *
                have L4 := Lib.hid (L3.out.trans (hb.mono L3.out.size))
                have Z4 := Lib.hid (Z3.out.kept (KeptT.below hb (Nat.le_refl _)))
                have O4 := Lib.hid (own_below O3.out hb (Nat.le_refl _))
                generalize hgg : x3.heap.size = gr at *
                have P4 : Hid (Pk w1 w1.heap.size gr 26 #[.slice (some ⟨gz, 0, none⟩) 65 65] va x4) := Lib.hid ⟨h5, hne, L4.out, L4.out.size⟩
                clear h5 hb hy hs9
                clear hne
                refine hK.out _ _ (SA.out _ L4.out) (fun hHeld => ?_)
                clear hK K
                try simp only [Act.put, List.getElem_toArray, List.getElem_cons_zero, List.getElem_cons_succ, List.setIfInBounds_toArray, List.set_cons_zero, List.set_cons_succ]
                refine wpAnyH_ready (rs := [6]) (by kernel_rfl) (by simp) ?_
                refine AllReadyH.cons rfl (fun K hK => ?_) AllReadyH.nil
                refine step_append_gro x4 rfl (.tmp 27) (.tmp 29) 23 rfl w1.heap.size 26 i0 _ 1 24 Tryd.underlying23 hi hz0 hz1 hz2 rfl (by omega) _ (0 + m.texts.length) ([] ++ vt) rfl O4.out x4.heap.size (some ⟨gr, 0, none⟩) 1 1 [.slice (some ⟨gz, 0, none⟩) 65 65] rfl rfl (row_lies P4.out.box) (by simp [Value.oneCell']) (by unfold maxLen; omega) (by omega) L4.out.size ?_
                intro vz xz ho hg
                obtain ⟨Nz, hNz⟩ : ∃ n : Nat, n = 0 + m.texts.length + 1 := ⟨_, rfl⟩
                rw [← hNz] at ho
                have Lz := Lib.hid (L4.out.trans (hg.below O4.out L4.out.size))
                have GZ := Lib.hid (more_texts HG1.out HVL.out Lz.out (by omega) ho (s := List.replicate 65 0) rfl (Z4.out.kept (KeptT.grown O4.out hg.1 (by decide))))
                clear ho hg hNz
                refine hK.out _ _ (SA.out _ Lz.out) (fun hHeld => ?_)
                clear hK K
                try simp only [Act.put, List.getElem_toArray, List.getElem_cons_zero, List.getElem_cons_succ, List.setIfInBounds_toArray, List.set_cons_zero, List.set_cons_succ]
                refine wpAnyH_take (i := 7) (v := ?v7_4) rfl (by kernel_rfl) (by kernel_rfl) (by kernel_rfl) (fun _ _ _ h => h) (Or.inl ⟨by kernel_rfl, ?y7_4⟩) (by assumption) ?r7_4
                case y7_4 => (intro w hSw; (try dsimp only at hSw); go_simp; (try with_reducible rfl))
                try simp only [Act.put, List.getElem_toArray, List.getElem_cons_zero, List.getElem_cons_succ, List.setIfInBounds_toArray, List.set_cons_zero, List.set_cons_succ]
                refine wpAnyH_done (by kernel_rfl) ?_ _
                refine NoPanic.normal ?_
                clear hHeld
                go_wp2_with fail
                go_meet
                exact ⟨Lz.out, GZ.out⟩
              · go_simp
                have hb := (Below.refl x2.heap.size x2).alloc (Nat.le_refl _) (.cells #[.slice (some ⟨gz, 0, none⟩) 65 65] 26)
                have h5 : (x2.alloc (.cells #[.slice (some ⟨gz, 0, none⟩) 65 65] 26)).heap[x2.heap.size]? = some (.cells #[.slice (some ⟨gz, 0, none⟩) 65 65] 26 (0, 0)) := heap_alloc_new x2 _
                have hg9 : w1.heap.size ≤ x2.heap.size := L2.out.size
                have hs9 : (x2.alloc (.cells #[.slice (some ⟨gz, 0, none⟩) 65 65] 26)).heap.size = x2.heap.size + 1 := World.size_alloc _ _
                have hne : (Value.slice (some ⟨g24, 0, none⟩) 0 0).ownBlock ≠ some x2.heap.size := own_not E2.out (Nat.le_refl _)
                generalize hy : x2.alloc (.cells #[.slice (some ⟨gz, 0, none⟩) 65 65] 26) = x3 at *
                have L3 := Lib.hid (L2.out.trans (hb.mono L2.out.size))
                have Z3 := Lib.hid (Z2.out.kept (KeptT.below hb (Nat.le_refl _)))
                have E3 := Lib.hid (own_below E2.out hb (Nat.le_refl _))
                generalize hgg : x2.heap.size = gr at *
                have P3 : Hid (Pk w1 w1.heap.size gr 26 #[.slice (some ⟨gz, 0, none⟩) 65 65] (Value.slice (some ⟨g24, 0, none⟩) 0 0) x3) := Lib.hid ⟨h5, hne, L3.out, L3.out.size⟩
                clear h5 hb hy hs9
                clear hne
                refine hK.out _ _ (SA.out _ L3.out) (fun hHeld => ?_)
                clear hK K
                try simp only [Act.put, List.getElem_toArray, List.getElem_cons_zero, List.getElem_cons_succ, List.setIfInBounds_toArray, List.set_cons_zero, List.set_cons_succ]
                refine wpAnyH_ready (rs := [3]) (by kernel_rfl) (by simp) ?_
                refine AllReadyH.cons rfl (fun K hK => ?_) AllReadyH.nil
                refine step_append_gro x3 rfl (.tmp 24) (.tmp 26) 23 rfl w1.heap.size 26 i0 _ 1 24 Tryd.underlying23 hi hz0 hz1 hz2 rfl (by omega) _ 0 [] rfl E3.out w1.heap.size AT m.texts.length cT vt rfl HLN.out (HL1.out.below L3.out) HON.out (by unfold maxLen; omega) (by omega) L3.out.size ?_
                intro va x4 ho hg
                have L4 := Lib.hid (L3.out.trans (hg.below E3.out L3.out.size))
                have O4 := Lib.hid ho
                have Z4 := Lib.hid (Z3.out.kept (KeptT.grown E3.out hg.1 (by decide)))
                have P4 := Lib.hid (P3.out.gro E3.out hg)
                clear ho hg
                refine hK.out _ _ (SA.out _ L4.out) (fun hHeld => ?_)
                clear hK K
                try simp only [Act.put, List.getElem_toArray, List.getElem_cons_zero, List.getElem_cons_succ, List.setIfInBounds_toArray, List.set_cons_zero, List.set_cons_succ]
                refine wpAnyH_ready (rs := [6]) (by kernel_rfl) (by simp) ?_
                refine AllReadyH.cons rfl (fun K hK => ?_) AllReadyH.nil
                refine step_append_gro x4 rfl (.tmp 27) (.tmp 29) 23 rfl w1.heap.size 26 i0 _ 1 24 Tryd.underlying23 hi hz0 hz1 hz2 rfl (by omega) _ (0 + m.texts.length) ([] ++ vt) rfl O4.out x4.heap.size (some ⟨gr, 0, none⟩) 1 1 [.slice (some ⟨gz, 0, none⟩) 65 65] rfl rfl (row_lies P4.out.box) (by simp [Value.oneCell']) (by unfold maxLen; omega) (by omega) L4.out.size ?_
                intro vz xz ho hg
                obtain ⟨Nz, hNz⟩ : ∃ n : Nat, n = 0 + m.texts.length + 1 := ⟨_, rfl⟩
                rw [← hNz] at ho
                have Lz := Lib.hid (L4.out.trans (hg.below O4.out L4.out.size))
                have GZ := Lib.hid (more_texts HG1.out HVL.out Lz.out (by omega) ho (s := List.replicate 65 0) rfl (Z4.out.kept (KeptT.grown O4.out hg.1 (by decide))))
                clear ho hg hNz
                refine hK.out _ _ (SA.out _ Lz.out) (fun hHeld => ?_)
                clear hK K
                try simp only [Act.put, List.getElem_toArray, List.getElem_cons_zero, List.getElem_cons_succ, List.setIfInBounds_toArray, List.set_cons_zero, List.set_cons_succ]
                refine wpAnyH_take (i := 7) (v := ?v7_5) rfl (by kernel_rfl) (by kernel_rfl) (by kernel_rfl) (fun _ _ _ h => h) (Or.inl ⟨by kernel_rfl, ?y7_5⟩) (by assumption) ?r7_5
                case y7_5 => (intro w hSw; (try dsimp only at hSw); go_simp; (try with_reducible rfl))
                try simp only [Act.put, List.getElem_toArray, List.getElem_cons_zero, List.getElem_cons_succ, List.setIfInBounds_toArray, List.set_cons_zero, List.set_cons_succ]
                refine wpAnyH_done (by kernel_rfl) ?_ _
                refine NoPanic.normal ?_
                clear hHeld
                go_wp2_with fail
                go_meet
                exact ⟨Lz.out, GZ.out⟩
          · refine step_make_full x0 rfl _ _ 26 rfl w1.heap.size 5 i5 _ 1 Tryd.underlying26 hi5 hy0 hy1 .i64 .i64 65 65 65 rfl rfl rfl rfl (by rw [hy2]; omega) (by unfold maxLen; omega) L0.out.size ?_
            intro x1 ho hg
            have hb := (Below.refl x0.heap.size x0).grown hg (Nat.le_refl _) (fun k hk => by cases hk)
            have L1 := Lib.hid (L0.out.trans (hb.mono L0.out.size))
            have Z1 := Lib.hid (zero_row ho)
            generalize x0.heap.size = gz at *
            clear ho hg hb
            refine hK.out _ _ (SA.out _ L1.out) (fun hHeld => ?_)
            clear hK K
            try simp only [Act.put, List.getElem_toArray, List.getElem_cons_zero, List.getElem_cons_succ, List.setIfInBounds_toArray, List.set_cons_zero, List.set_cons_succ]
            refine wpAnyH_ready (rs := [0, 5]) (by kernel_rfl) (by simp) ?_
            refine AllReadyH.cons rfl (fun K hK => ?_) (AllReadyH.cons rfl (fun K hK => ?_) AllReadyH.nil)
            · go_simp
              have hb := (Below.refl x1.heap.size x1).alloc (Nat.le_refl _) (.cells #[] 26)
              have h5 : (x1.alloc (.cells #[] 26)).heap[x1.heap.size]? = some (.cells #[] 26 (0, 0)) := heap_alloc_new x1 _
              have hg4 : w1.heap.size ≤ x1.heap.size := L1.out.size
              have hs4 : (x1.alloc (.cells #[] 26)).heap.size = x1.heap.size + 1 := World.size_alloc _ _
              have hlt : x1.heap.size ≤ x1.heap.size := Nat.le_refl _
              generalize hy : x1.alloc (.cells #[] 26) = x2 at *
              generalize hgg : x1.heap.size = g24 at *
              clear hlt
              have HS4 := Lib.hid hs4
              clear hs4
              have L2 := Lib.hid (L1.out.trans (hb.mono (by omega)))
              have E2 := Lib.hid (own_lit0 26 1 h5 hg4)
              have Z2 := Lib.hid (Z1.out.kept (KeptT.below hb (by omega)))
              clear h5 hb hy
              refine hK.out _ _ (SA.out _ L2.out) (fun hHeld => ?_)
              clear hK K
              try simp only [Act.put, List.getElem_toArray, List.getElem_cons_zero, List.getElem_cons_succ, List.setIfInBounds_toArray, List.set_cons_zero, List.set_cons_succ]
              refine wpAnyH_ready (rs := [3, 5]) (by kernel_rfl) (by simp) ?_
              refine AllReadyH.cons rfl (fun K hK => ?_) (AllReadyH.cons rfl (fun K hK => ?_) AllReadyH.nil)
              · refine step_append_gro x2 rfl (.tmp 24) (.tmp 26) 23 rfl w1.heap.size 26 i0 _ 1 24 Tryd.underlying23 hi hz0 hz1 hz2 rfl (by omega) _ 0 [] rfl E2.out w1.heap.size AT m.texts.length cT vt rfl HLN.out (HL1.out.below L2.out) HON.out (by unfold maxLen; omega) (by omega) L2.out.size ?_
                intro va x3 ho hg
                have L3 := Lib.hid (L2.out.trans (hg.below E2.out L2.out.size))
                have O3 := Lib.hid ho
                have Z3 := Lib.hid (Z2.out.kept (KeptT.grown E2.out hg.1 (by decide)))
                clear ho hg
                refine hK.out _ _ (SA.out _ L3.out) (fun hHeld => ?_)
                clear hK K
                try simp only [Act.put, List.getElem_toArray, List.getElem_cons_zero, List.getElem_cons_succ, List.setIfInBounds_toArray, List.set_cons_zero, List.set_cons_succ]
                refine wpAnyH_ready (rs := [5]) (by kernel_rfl) (by simp) ?_
                refine AllReadyH.cons rfl (fun K hK => ?_) AllReadyH.nil
                go_simp
                have hb := (Below.refl x3.heap.size x3).alloc (Nat.le_refl _) (.cells #[.slice (some ⟨gz, 0, none⟩) 65 65] 26)
                have h5 : (x3.alloc (.cells #[.slice (some ⟨gz, 0, none⟩) 65 65] 26)).heap[x3.heap.size]? = some (.cells #[.slice (some ⟨gz, 0, none⟩) 65 65] 26 (0, 0)) := heap_alloc_new x3 _
                have hg9 : w1.heap.size ≤ x3.heap.size := L3.out.size
                have hs9 : (x3.alloc (.cells #[.slice (some ⟨gz, 0, none⟩) 65 65] 26)).heap.size = x3.heap.size + 1 := World.size_alloc _ _
                have hne : va.ownBlock ≠ some x3.heap.size := own_not O3.out (Nat.le_refl _)
                generalize hy : x3.alloc (.cells #[.slice (some ⟨gz, 0, none⟩) 65 65] 26) = x4 at *
                have L4 := Lib.hid (L3.out.trans (hb.mono L3.out.size))
                have Z4 := Lib.hid (Z3.out.kept (KeptT.below hb (Nat.le_refl _)))
                have O4 := Lib.hid (own_below O3.out hb (Nat.le_refl _))
                generalize hgg : x3.heap.size = gr at *
                have P4 : Hid (Pk w1 w1.heap.size gr 26 #[.slice (some ⟨gz, 0, none⟩) 65 65] va x4) := Lib.hid ⟨h5, hne, L4.out, L4.out.size⟩
                clear h5 hb hy hs9
                clear hne
                refine hK.out _ _ (SA.out _ L4.out) (fun hHeld => ?_)
                clear hK K
                try simp only [Act.put, List.getElem_toArray, List.getElem_cons_zero, List.getElem_cons_succ, List.setIfInBounds_toArray, List.set_cons_zero, List.set_cons_succ]
                refine wpAnyH_ready (rs := [6]) (by kernel_rfl) (by simp) ?_
                refine AllReadyH.cons rfl (fun K hK => ?_) AllReadyH.nil
                refine step_append_gro x4 rfl (.tmp 27) (.tmp 29) 23 rfl w1.heap.size 26 i0 _ 1 24 Tryd.underlying23 hi hz0 hz1 hz2 rfl (by omega) _ (0 + m.texts.length) ([] ++ vt) rfl O4.out x4.heap.size (some ⟨gr, 0, none⟩) 1 1 [.slice (some ⟨gz, 0, none⟩) 65 65] rfl rfl (row_lies P4.out.box) (by simp [Value.oneCell']) (by unfold maxLen; omega) (by omega) L4.out.size ?_
                intro vz xz ho hg
                obtain ⟨Nz, hNz⟩ : ∃ n : Nat, n = 0 + m.texts.length + 1 := ⟨_, rfl⟩
                rw [← hNz] at ho
                have Lz := Lib.hid (L4.out.trans (hg.below O4.out L4.out.size))
                have GZ := Lib.hid (more_texts HG1.out HVL.out Lz.out (by omega) ho (s := List.replicate 65 0) rfl (Z4.out.kept (KeptT.grown O4.out hg.1 (by decide))))
                clear ho hg hNz
                refine hK.out _ _ (SA.out _ Lz.out) (fun hHeld => ?_)
                clear hK K
                try simp only [Act.put, List.getElem_toArray, List.getElem_cons_zero, List.getElem_cons_succ, List.setIfInBounds_toArray, List.set_cons_zero, List.set_cons_succ]
                refine wpAnyH_take (i := 7) (v := ?v7_6) rfl (by kernel_rfl) (by kernel_rfl) (by kernel_rfl) (fun _ _ _ h => h) (Or.inl ⟨by kernel_rfl, ?y7_6⟩) (by assumption) ?r7_6
                case y7_6 => (intro w hSw; (try dsimp only at hSw); go_simp; (try with_reducible rfl))
                try simp only [Act.put, List.getElem_toArray, List.getElem_cons_zero, List.getElem_cons_succ, List.setIfInBounds_toArray, List.set_cons_zero, List.set_cons_succ]
                refine wpAnyH_done (by kernel_rfl) ?_ _
                refine NoPanic.normal ?_
                clear hHeld
                go_wp2_with fail
                go_meet
                exact ⟨Lz.out, GZ.out⟩
              · go_simp
                have hb := (Below.refl x2.heap.size x2).alloc (Nat.le_refl _) (.cells #[.slice (some ⟨gz, 0, none⟩) 65 65] 26)
                have h5 : (x2.alloc (.cells #[.slice (some ⟨gz, 0, none⟩) 65 65] 26)).heap[x2.heap.size]? = some (.cells #[.slice (some ⟨gz, 0, none⟩) 65 65] 26 (0, 0)) := heap_alloc_new x2 _
                have hg9 : w1.heap.size ≤ x2.heap.size := L2.out.size
                have hs9 : (x2.alloc (.cells #[.slice (some ⟨gz, 0, none⟩) 65 65] 26)).heap.size = x2.heap.size + 1 := World.size_alloc _ _
                have hne : (Value.slice (some ⟨g24, 0, none⟩) 0 0).ownBlock ≠ some x2.heap.size := own_not E2.out (Nat.le_refl _)
                generalize hy : x2.alloc (.cells #[.slice (some ⟨gz, 0, none⟩) 65 65] 26) = x3 at *
                have L3 := Lib.hid (L2.out.trans (hb.mono L2.out.size))
                have Z3 := Lib.hid (Z2.out.kept (KeptT.below hb (Nat.le_refl _)))
                have E3 := Lib.hid (own_below E2.out hb (Nat.le_refl _))
                generalize hgg : x2.heap.size = gr at *
                have P3 : Hid (Pk w1 w1.heap.size gr 26 #[.slice (some ⟨gz, 0, none⟩) 65 65] (Value.slice (some ⟨g24, 0, none⟩) 0 0) x3) := Lib.hid ⟨h5, hne, L3.out, L3.out.size⟩
                clear h5 hb hy hs9
                clear hne
                refine hK.out _ _ (SA.out _ L3.out) (fun hHeld => ?_)
                clear hK K
                try simp only [Act.put, List.getElem_toArray, List.getElem_cons_zero, List.getElem_cons_succ, List.setIfInBounds_toArray, List.set_cons_zero, List.set_cons_succ]
                refine wpAnyH_ready (rs := [3]) (by kernel_rfl) (by simp) ?_
                refine AllReadyH.cons rfl (fun K hK => ?_) AllReadyH.nil
                refine step_append_gro x3 rfl (.tmp 24) (.tmp 26) 23 rfl w1.heap.size 26 i0 _ 1 24 Tryd.underlying23 hi hz0 hz1 hz2 rfl (by omega) _ 0 [] rfl E3.out w1.heap.size AT m.texts.length cT vt rfl HLN.out (HL1.out.below L3.out) HON.out (by unfold maxLen; omega) (by omega) L3.out.size ?_
                intro va x4 ho hg
                have L4 := Lib.hid (L3.out.trans (hg.below E3.out L3.out.size))
                have O4 := Lib.hid ho
                have Z4 := Lib.hid (Z3.out.kept (KeptT.grown E3.out hg.1 (by decide)))
                have P4 := Lib.hid (P3.out.gro E3.out hg)
                clear ho hg
                refine hK.out _ _ (SA.out _ L4.out) (fun hHeld => ?_)
                clear hK K
                try simp only [Act.put, List.getElem_toArray, List.getElem_cons_zero, List.getElem_cons_succ, List.setIfInBounds_toArray, List.set_cons_zero, List.set_cons_succ]
                refine wpAnyH_ready (rs := [6]) (by kernel_rfl) (by simp) ?_
                refine AllReadyH.cons rfl (fun K hK => ?_) AllReadyH.nil
                refine step_append_gro x4 rfl (.tmp 27) (.tmp 29) 23 rfl w1.heap.size 26 i0 _ 1 24 Tryd.underlying23 hi hz0 hz1 hz2 rfl (by omega) _ (0 + m.texts.length) ([] ++ vt) rfl O4.out x4.heap.size (some ⟨gr, 0, none⟩) 1 1 [.slice (some ⟨gz, 0, none⟩) 65 65] rfl rfl (row_lies P4.out.box) (by simp [Value.oneCell']) (by unfold maxLen; omega) (by omega) L4.out.size ?_
                intro vz xz ho hg
                obtain ⟨Nz, hNz⟩ : ∃ n : Nat, n = 0 + m.texts.length + 1 := ⟨_, rfl⟩
                rw [← hNz] at ho
                have Lz := Lib.hid (L4.out.trans (hg.below O4.out L4.out.size))
                have GZ := Lib.hid (more_texts HG1.out HVL.out Lz.out (by omega) ho (s := List.replicate 65 0) rfl (Z4.out.kept (KeptT.grown O4.out hg.1 (by decide))))
                clear ho hg hNz
                refine hK.out _ _ (SA.out _ Lz.out) (fun hHeld => ?_)
                clear hK K
                try simp only [Act.put, List.getElem_toArray, List.getElem_cons_zero, List.getElem_cons_succ, List.setIfInBounds_toArray, List.set_cons_zero, List.set_cons_succ]
                refine wpAnyH_take (i := 7) (v := ?v7_7) rfl (by kernel_rfl) (by kernel_rfl) (by kernel_rfl) (fun _ _ _ h => h) (Or.inl ⟨by kernel_rfl, ?y7_7⟩) (by assumption) ?r7_7
                case y7_7 => (intro w hSw; (try dsimp only at hSw); go_simp; (try with_reducible rfl))
                try simp only [Act.put, List.getElem_toArray, List.getElem_cons_zero, List.getElem_cons_succ, List.setIfInBounds_toArray, List.set_cons_zero, List.set_cons_succ]
                refine wpAnyH_done (by kernel_rfl) ?_ _
                refine NoPanic.normal ?_
                clear hHeld
                go_wp2_with fail
                go_meet
                exact ⟨Lz.out, GZ.out⟩
            · go_simp
              have hb := (Below.refl x1.heap.size x1).alloc (Nat.le_refl _) (.cells #[.slice (some ⟨gz, 0, none⟩) 65 65] 26)
              have h5 : (x1.alloc (.cells #[.slice (some ⟨gz, 0, none⟩) 65 65] 26)).heap[x1.heap.size]? = some (.cells #[.slice (some ⟨gz, 0, none⟩) 65 65] 26 (0, 0)) := heap_alloc_new x1 _
              have hg9 : w1.heap.size ≤ x1.heap.size := L1.out.size
              have hs9 : (x1.alloc (.cells #[.slice (some ⟨gz, 0, none⟩) 65 65] 26)).heap.size = x1.heap.size + 1 := World.size_alloc _ _
              generalize hy : x1.alloc (.cells #[.slice (some ⟨gz, 0, none⟩) 65 65] 26) = x2 at *
              have L2 := Lib.hid (L1.out.trans (hb.mono L1.out.size))
              have Z2 := Lib.hid (Z1.out.kept (KeptT.below hb (Nat.le_refl _)))
              generalize hgg : x1.heap.size = gr at *
              have P2 : Hid (Pk w1 w1.heap.size gr 26 #[.slice (some ⟨gz, 0, none⟩) 65 65] (.slice none 0 0) x2) := Lib.hid ⟨h5, (by intro e; cases e), L2.out, L2.out.size⟩
              clear h5 hb hy hs9
              refine hK.out _ _ (SA.out _ L2.out) (fun hHeld => ?_)
              clear hK K
              try simp only [Act.put, List.getElem_toArray, List.getElem_cons_zero, List.getElem_cons_succ, List.setIfInBounds_toArray, List.set_cons_zero, List.set_cons_succ]
              refine wpAnyH_ready (rs := [0]) (by kernel_rfl) (by simp) ?_
              refine AllReadyH.cons rfl (fun K hK => ?_) AllReadyH.nil
              go_simp
              have hb := (Below.refl x2.heap.size x2).alloc (Nat.le_refl _) (.cells #[] 26)
              have h5 : (x2.alloc (.cells #[] 26)).heap[x2.heap.size]? = some (.cells #[] 26 (0, 0)) := heap_alloc_new x2 _
              have hg4 : w1.heap.size ≤ x2.heap.size := L2.out.size
              have hs4 : (x2.alloc (.cells #[] 26)).heap.size = x2.heap.size + 1 := World.size_alloc _ _
              have hlt : x2.heap.size ≤ x2.heap.size := Nat.le_refl _
              have hgr0 : gr < x2.heap.size := lt_of_some P2.out.box
              generalize hy : x2.alloc (.cells #[] 26) = x3 at *
              generalize hgg : x2.heap.size = g24 at *
              clear hlt
              have HS4 := Lib.hid hs4
              clear hs4
              have L3 := Lib.hid (L2.out.trans (hb.mono (by omega)))
              have E3 := Lib.hid (own_lit0 26 1 h5 hg4)
              have Z3 := Lib.hid (Z2.out.kept (KeptT.below hb (by omega)))
              have P3 : Hid (Pk w1 w1.heap.size gr 26 #[.slice (some ⟨gz, 0, none⟩) 65 65] (.slice (some ⟨g24, 0, none⟩) 0 0) x3) := Lib.hid ⟨(hb.block _ (by omega)).trans P2.out.box, (fun e => by have e2 : g24 = gr := Option.some.inj e; omega), L3.out, L3.out.size⟩
              clear h5 hb hy
              clear hgr0
              refine hK.out _ _ (SA.out _ L3.out) (fun hHeld => ?_)
              clear hK K
              try simp only [Act.put, List.getElem_toArray, List.getElem_cons_zero, List.getElem_cons_succ, List.setIfInBounds_toArray, List.set_cons_zero, List.set_cons_succ]
              refine wpAnyH_ready (rs := [3]) (by kernel_rfl) (by simp) ?_
              refine AllReadyH.cons rfl (fun K hK => ?_) AllReadyH.nil
              refine step_append_gro x3 rfl (.tmp 24) (.tmp 26) 23 rfl w1.heap.size 26 i0 _ 1 24 Tryd.underlying23 hi hz0 hz1 hz2 rfl (by omega) _ 0 [] rfl E3.out w1.heap.size AT m.texts.length cT vt rfl HLN.out (HL1.out.below L3.out) HON.out (by unfold maxLen; omega) (by omega) L3.out.size ?_
              intro va x4 ho hg
              have L4 := Lib.hid (L3.out.trans (hg.below E3.out L3.out.size))
              have O4 := Lib.hid ho
              have Z4 := Lib.hid (Z3.out.kept (KeptT.grown E3.out hg.1 (by decide)))
              have P4 := Lib.hid (P3.out.gro E3.out hg)
              clear ho hg
              refine hK.out _ _ (SA.out _ L4.out) (fun hHeld => ?_)
              clear hK K
              try simp only [Act.put, List.getElem_toArray, List.getElem_cons_zero, List.getElem_cons_succ, List.setIfInBounds_toArray, List.set_cons_zero, List.set_cons_succ]
              refine wpAnyH_ready (rs := [6]) (by kernel_rfl) (by simp) ?_
              refine AllReadyH.cons rfl (fun K hK => ?_) AllReadyH.nil
              refine step_append_gro x4 rfl (.tmp 27) (.tmp 29) 23 rfl w1.heap.size 26 i0 _ 1 24 Tryd.underlying23 hi hz0 hz1 hz2 rfl (by omega) _ (0 + m.texts.length) ([] ++ vt) rfl O4.out x4.heap.size (some ⟨gr, 0, none⟩) 1 1 [.slice (some ⟨gz, 0, none⟩) 65 65] rfl rfl (row_lies P4.out.box) (by simp [Value.oneCell']) (by unfold maxLen; omega) (by omega) L4.out.size ?_
              intro vz xz ho hg
              obtain ⟨Nz, hNz⟩ : ∃ n : Nat, n = 0 + m.texts.length + 1 := ⟨_, rfl⟩
              rw [← hNz] at ho
              have Lz := Lib.hid (L4.out.trans (hg.below O4.out L4.out.size))
              have GZ := Lib.hid (more_texts HG1.out HVL.out Lz.out (by omega) ho (s := List.replicate 65 0) rfl (Z4.out.kept (KeptT.grown O4.out hg.1 (by decide))))
              clear ho hg hNz
              refine hK.out _ _ (SA.out _ Lz.out) (fun hHeld => ?_)
              clear hK K
              try simp only [Act.put, List.getElem_toArray, List.getElem_cons_zero, List.getElem_cons_succ, List.setIfInBounds_toArray, List.set_cons_zero, List.set_cons_succ]
              refine wpAnyH_take (i := 7) (v := ?v7_8) rfl (by kernel_rfl) (by kernel_rfl) (by kernel_rfl) (fun _ _ _ h => h) (Or.inl ⟨by kernel_rfl, ?y7_8⟩) (by assumption) ?r7_8
              case y7_8 => (intro w hSw; (try dsimp only at hSw); go_simp; (try with_reducible rfl))
              try simp only [Act.put, List.getElem_toArray, List.getElem_cons_zero, List.getElem_cons_succ, List.setIfInBounds_toArray, List.set_cons_zero, List.set_cons_succ]
              refine wpAnyH_done (by kernel_rfl) ?_ _
              refine NoPanic.normal ?_
              clear hHeld
              go_wp2_with fail
              go_meet
              exact ⟨Lz.out, GZ.out⟩
        case rest =>
          obtain ⟨hbl, hgz⟩ := hcut
          obtain ⟨ts, hts⟩ : ∃ ts, ts = m.texts ++ [List.replicate 65 0] := ⟨_, rfl⟩
          rw [← hts] at hgz
          have HTS := Lib.hid hts
          have HGZ := Lib.hid hgz
          clear hts
          obtain ⟨A5, c5, rfl, k1, k2, _⟩ := hgz
          have XC := Lib.hid (X3.out.on hbl)
          clear hbl
          unfold maxLen at k2
          obtain ⟨i0, hi, hz0, hz1, hz2⟩ := info_parts info43c
          go_wp2_with (at_make; refine wpList_make_full _ rfl _ _ 42 rfl wc.heap.size 43 i0 (.int .i64 0) 1 Tryd.underlying42 hi hz0 hz1 .i64 .i64 17 17 17 rfl rfl rfl rfl (by rw [hz2]; omega) (by unfold maxLen; omega) (Nat.le_refl _) ?_; intro w4 ho4 hg4)
          obtain ⟨cs0, hcs0, hsz0⟩ : ∃ cs0 : Array Value, w4.heap[wc.heap.size]? = some (.cells cs0 43 (0, 0)) ∧ cs0.size = 17 := by
            rcases ho4.2 with ⟨e, _⟩ | ⟨g', cap, cur, e, hb, hg, hn, hm, hs, ht⟩
            · cases e
            · injection e with e1 e2 e3
              injection e1 with e1
              injection e1 with e1
              subst e1 e3
              exact ⟨cur, hg, by omega⟩
          have hb4 : Below wc.heap.size wc w4 := (Below.refl _ _).grown hg4 (Nat.le_refl _) (fun k hk => by cases hk)
          clear ho4 hg4
          go_loopw [7] (fun i wr => ∃ (k : Nat) (cs : Array Value), i = .int .i64 k ∧ k ≤ 17 ∧ Below wc.heap.size wc wr ∧ wr.heap[wc.heap.size]? = some (.cells cs 43 (0, 0)) ∧ cs.size = 17 ∧ ∀ j, j < k → cs[j]? = some (.int .i64 1)) (fun i _ => 17 - (intOf i).toNat)
          case atStart => exact ⟨0, cs0, rfl, Nat.zero_le _, hb4, hcs0, hsz0, fun j h => by omega⟩
          case round =>
            clear hcs0 hsz0 hb4
            obtain ⟨k, cs, rfl, hk, hb, hcs, hsz, hall⟩ := hrel
            have HB := Lib.hid hb
            have HCS := Lib.hid hcs
            have HSZ := Lib.hid hsz
            have HALL := Lib.hid hall
            clear hb hcs hsz hall
            by_cases hk17 : k < 17
            · obtain ⟨u, hu⟩ : ∃ u, cs[k]? = some u := ⟨_, Array.getElem?_eq_getElem (by have := HSZ.out; omega)⟩
              have d0 : wr.cell? ⟨wc.heap.size, k, none⟩ = some u := by rw [cell_of_row _ _ _ _ _ _ HCS.out]; exact hu
              have d1 : wr.frozen? ⟨wc.heap.size, k, none⟩ = false := frozen_of_row _ _ _ _ _ HCS.out
              have hki : (k : Int) < 17 := by omega
              clear hu
              go_wp2
              go_roundw
              case rel =>
                refine ⟨k + 1, cs.setIfInBounds k (.int .i64 1), by go_num, by omega, HB.out.setCell (p := ⟨wc.heap.size, k, none⟩) (Nat.le_refl _) _, heap_setCell_same _ _ _ _ _ _ HCS.out, by rw [Array.size_setIfInBounds]; exact HSZ.out, fun j hj => ?_⟩
                have h17 := HSZ.out
                by_cases hjk : j = k
                · subst hjk
                  rw [Array.getElem?_setIfInBounds_self_of_lt (by omega)]
                · rw [Array.getElem?_setIfInBounds_ne (Ne.symm hjk)]
                  exact HALL.out j (by omega)
              case measure => simp [intOf]; omega
            · obtain rfl : k = 17 := by omega
              have HROW : Hid (∀ n, n ≤ 17 → RowL wr wr.heap.size n (tysV (List.replicate n 1)) (.slice (some ⟨wc.heap.size, 0, none⟩) n 17)) := fun n hn => by
                refine ⟨_, _, rfl, hn, by unfold maxLen; omega, fun e => (by cases e), fun j u hu => ⟨_, rfl, lt_of_some HCS.out, ?_⟩⟩
                simp only [tysV, List.map_replicate, List.getElem?_replicate] at hu
                split at hu
                · injection hu with hu
                  subst hu
                  rw [Addr.add_lit, cell_of_row _ _ _ _ _ _ HCS.out, Nat.zero_add]
                  exact HALL.out j (by omega)
                · cases hu
              have XB := Lib.hid (XC.out.on HB.out)
              have GB := Lib.hid ((HGZ.out.below HB.out).more HB.out.size)
              have HBW : Hid (wc.heap.size ≤ wr.heap.size) := HB.out.size
              clear HGZ HALL HSZ HCS
              have KX : Hid (∀ x, Below wr.heap.size wr x → ∀ c V, CodeV x x.heap.size c V → ∀ r, okCd c = r → Calls Tryd.prog 23 #[V, .pointer (some ⟨w.heap.size, 0, none⟩)] x (Says r x)) := fun x hx c V hc r hr => by
                have X := XB.out.on hx
                obtain ⟨C, T, e, hC, hT⟩ := X.mod HM.out
                injection e with e
                injection e with e
                injection e with e1 e
                injection e with e2 e
                subst e1 e2
                have K := oneMore m c V _ _ w.heap.size x X.box hC hT HNL.out hc
                rw [ok_more HOK.out HNL.out, hr] at K
                exact K
              have KR : Hid (∀ x, Below wr.heap.size wr x → Calls Tryd.prog 17 #[.agg #[.slice AC m.codes.length cC, .slice A5 ts.length c5]] x (Says false x)) := fun x hx => by
                have X := XB.out.on hx
                obtain ⟨C, T, e, hC, hT⟩ := X.mod HM.out
                injection e with e
                injection e with e
                injection e with e1 e
                injection e with e2 e
                subst e1 e2
                have K := right ⟨m.codes, ts⟩ (.agg #[.slice AC m.codes.length cC, .slice A5 ts.length c5]) x ⟨_, _, rfl, hC, (GB.out.below hx).more hx.size⟩
                rw [HTS.out, not_longer] at K
                rw [HTS.out]
                exact K
              have B0 : Hid (Below wr.heap.size wr wr) := Lib.hid (Below.refl _ _)
              have hend : ¬ ((17 : Int) < 17) := by omega
              go_wp2_with fail
              refine (KX.out _ B0.out ⟨[], List.replicate 16 1, 0, 16, []⟩ _ ⟨_, _, rfl, ((HROW.out 16 (by omega)).below B0.out).more B0.out.size, RowL.nothing _ _⟩ true (by decide)).mono ?_
              rintro e vB1 ⟨rfl, hb⟩
              have B1 := Lib.hid (B0.out.trans (hb.mono B0.out.size))
              clear hb
              obtain ⟨c0, c1⟩ := (XB.out.on B1.out).cells
              go_wp2_with fail
              refine (KR.out _ B1.out).mono ?_
              rintro e vB2 ⟨rfl, hb⟩
              have B2 := Lib.hid (B1.out.trans (hb.mono B1.out.size))
              clear hb
              clear c0 c1
              go_wp2_with fail
              refine (KX.out _ B2.out ⟨[], List.replicate 17 1, 0, 17, []⟩ _ ⟨_, _, rfl, ((HROW.out 17 (by omega)).below B2.out).more B2.out.size, RowL.nothing _ _⟩ false (by decide)).mono ?_
              rintro e vB3 ⟨rfl, hb⟩
              have B3 := Lib.hid (B2.out.trans (hb.mono B2.out.size))
              clear hb
              go_wp2_with fail
              refine (KX.out _ B3.out ⟨[], List.replicate 1 1, 0, 0, []⟩ _ ⟨_, _, rfl, ((HROW.out 1 (by omega)).below B3.out).more B3.out.size, RowL.nothing _ _⟩ false (by decide)).mono ?_
              rintro e vB4 ⟨rfl, hb⟩
              have B4 := Lib.hid (B3.out.trans (hb.mono B3.out.size))
              clear hb
              go_wp2_with fail
              refine (KX.out _ B4.out ⟨[], [], 0, 257, []⟩ _ ⟨_, _, rfl, RowL.nothing _ _, RowL.nothing _ _⟩ false (by decide)).mono ?_
              rintro e vB5 ⟨rfl, hb⟩
              have B5 := Lib.hid (B4.out.trans (hb.mono B4.out.size))
              clear hb
              go_wp2_with fail
              refine (KX.out _ B5.out ⟨[97, 98, 99, 100, 101, 102, 103, 104, 105, 106, 107, 108, 109, 110, 111, 112, 113], [], 0, 0, []⟩ _ ⟨_, _, rfl, RowL.nothing _ _, RowL.nothing _ _⟩ false (by decide)).mono ?_
              rintro e vB6 ⟨rfl, hb⟩
              have B6 := Lib.hid (B5.out.trans (hb.mono B5.out.size))
              clear hb
              go_wp2_with fail
              refine (KX.out _ B6.out ⟨[], [], 4, 0, []⟩ _ ⟨_, _, rfl, RowL.nothing _ _, RowL.nothing _ _⟩ false (by decide)).mono ?_
              rintro e vB7 ⟨rfl, hb⟩
              have B7 := Lib.hid (B6.out.trans (hb.mono B6.out.size))
              clear hb
              have hb := (Below.refl vB7.heap.size vB7).alloc (Nat.le_refl _) (.cells #[.int .i64 0, .int .i64 0] 50)
              have B8 := Lib.hid (B7.out.trans (hb.mono B7.out.size))
              have R8 : Hid (RowL (vB7.alloc (.cells #[.int .i64 0, .int .i64 0] 50)) (vB7.alloc (.cells #[.int .i64 0, .int .i64 0] 50)).heap.size 1 (insV [(0, 0)]) (.slice (some ⟨vB7.heap.size, 0, none⟩) 1 1)) := Lib.hid ⟨_, _, rfl, by omega, by unfold maxLen; omega, row_lies (cs := #[.int .i64 0, .int .i64 0]) (heap_alloc_new vB7 _)⟩
              clear hb
              go_wp2_with fail
              refine (KX.out _ B8.out ⟨[], [], 0, 0, [(0, 0)]⟩ _ ⟨_, _, rfl, RowL.nothing _ _, R8.out⟩ false (by decide)).mono ?_
              rintro e vB9 ⟨rfl, hb⟩
              have B9 := Lib.hid (B8.out.trans (hb.mono B8.out.size))
              clear hb
              clear R8
              have hb := (Below.refl vB9.heap.size vB9).alloc (Nat.le_refl _) (.cells #[.int .i64 0] 43)
              have B10 := Lib.hid (B9.out.trans (hb.mono B9.out.size))
              have R10 : Hid (RowL (vB9.alloc (.cells #[.int .i64 0] 43)) (vB9.alloc (.cells #[.int .i64 0] 43)).heap.size 1 (tysV [0]) (.slice (some ⟨vB9.heap.size, 0, none⟩) 1 1)) := Lib.hid ⟨_, _, rfl, by omega, by unfold maxLen; omega, row_lies (cs := #[.int .i64 0]) (heap_alloc_new vB9 _)⟩
              clear hb
              go_wp2_with fail
              refine (KX.out _ B10.out ⟨[], [0], 0, 1, []⟩ _ ⟨_, _, rfl, R10.out, RowL.nothing _ _⟩ false (by decide)).mono ?_
              rintro e vB11 ⟨rfl, hb⟩
              have B11 := Lib.hid (B10.out.trans (hb.mono B10.out.size))
              clear hb
              clear R10
              clear hi hz0 hz1 hz2 i0
              obtain ⟨i0, hi, hz0, hz1, hz2⟩ := info_parts info50c
              obtain ⟨N, hN⟩ : ∃ N : Nat, N = 16385 := ⟨_, rfl⟩
              have HNN := Lib.hid hN
              clear hN
              go_wp2_with (at_make; refine wpList_wanted (by kernel_rfl) ?_; refine wpList_make_full _ rfl _ _ 44 rfl vB11.heap.size 50 i0 (.agg #[.int .i64 0, .int .i64 0]) 2 Tryd.underlying44 hi hz0 hz1 .i64 .i64 16385 16385 N rfl rfl (by have := HNN.out; omega) (by have := HNN.out; omega) (by have := HNN.out; rw [hz2]; omega) (by have := HNN.out; unfold maxLen; omega) (Nat.le_refl _) ?_; intro w5 ho5 hg5; rw [made_zeros] at ho5)
              have hb := (Below.refl vB11.heap.size vB11).grown hg5 (Nat.le_refl _) (fun k hk => by cases hk)
              have B12 := Lib.hid (B11.out.trans (hb.mono B11.out.size))
              have R12 : Hid (RowL w5 w5.heap.size (List.replicate N ((0 : Int), (0 : Int))).length (insV (List.replicate N (0, 0))) (.slice (some ⟨vB11.heap.size, 0, none⟩) N N)) := Lib.hid (by
                obtain ⟨A, c, e, g1, g2, g3⟩ := (RowT.own ho5).lies
                refine ⟨A, c, ?_, ?_, g2, ?_⟩
                · rw [List.length_replicate]; exact e
                · rw [List.length_replicate]; exact g1
                · rw [insV_zeros]; exact g3)
              clear hb ho5 hg5
              have HN : Hid (okCd ⟨[], [], 0, 0, List.replicate N (0, 0)⟩ = false) := Lib.hid (by have hN := HNN.out; simp [okCd, hN])
              refine (KX.out _ B12.out ⟨[], [], 0, 0, List.replicate N (0, 0)⟩ _ ⟨_, _, rfl, RowL.nothing _ _, R12.out⟩ false HN.out).mono ?_
              rintro e vB13 ⟨rfl, hb⟩
              have B13 := Lib.hid (B12.out.trans (hb.mono B12.out.size))
              clear hb
              have LL := Lib.hid (XB.out.on B13.out).low
              clear R12 HN
              go_wp2
              go_ret
              exact ⟨rfl, LL.out⟩

end Go.Proofs.YtecjkmemihmkcaaDoor
