/- What the program's reader makes of a primary expression. Conditions: the reader and its tokens lie in memory; the readers of expressions of one depth more read as said. -/
import Derived.Test.YtoicncfpoklanaaDoorPk
import Derived.Deep.DeepCutAuto
namespace Go.Proofs.YtoicncfpoklanaaDoor
open Go.RowKit
set_option maxRecDepth 100000
set_option linter.unusedSimpArgs false

theorem enclosed_one {z : Nat} {e : Par Ex} {ts r : List Tok} {l : List Ex} (h : enclosedP z e ts = .ok l r) : ∃ x, l = [x] := by
  obtain ⟨a, s, h1, h2⟩ := bind_inv h
  obtain ⟨b, s2, h3, h4⟩ := bind_inv h2
  obtain ⟨c, s3, h5, h6⟩ := bind_inv h4
  cases h6
  exact ⟨b, rfl⟩
theorem own_one {lo : Nat} {w : World} {x : Ex} {V : Value} (h : OwnE lo w [x] V) : ∃ g cp k, V = .slice (some ⟨g, 0, none⟩) 1 cp ∧ 1 ≤ cp ∧ cp ≤ maxLen ∧
    (w.cell? ⟨g, 0, none⟩ = some (.int .i64 x.op) ∧ w.cell? ⟨g, 1, none⟩ = some (.int .i64 x.num) ∧ w.cell? ⟨g, 2, none⟩ = some (.string (strN x.text)) ∧ w.cell? ⟨g, 3, none⟩ = some k ∧ w.cell? ⟨g, 4, none⟩ = some (.int .i64 x.place)) ∧ ExsC w (Rng lo w.heap.size) x.kids k := by
  obtain ⟨ks, hk, ho, hkid⟩ := h
  match ks, hk with
  | [k], _ =>
    rcases ho.2 with ⟨_, h0⟩ | ⟨g, cp, cur, rfl, hb, hg, hn, hm, hc, ht⟩
    · simp at h0
    · have c : ∀ j u, (exsC [x] [k])[j]? = some u → w.cell? ⟨g, j, none⟩ = some u := fun j u hu => by
        have := ho.cells (g := g) rfl j u hu
        rw [Addr.add_lit, Nat.zero_add] at this
        exact this
      exact ⟨g, cp, k, rfl, hn, hm, ⟨c 0 _ rfl, c 1 _ rfl, c 2 _ rfl, c 3 _ rfl, c 4 _ rfl⟩, (hkid 0 x k rfl rfl).more fun q hq => ⟨hq.1.1, hq.2⟩⟩
theorem primaryP_eq (z : Nat) (e : Par Ex) (ts : List Tok) (t : Tok) (ht : peekT z ts = t) : primaryP z e ts =
  if t.kind = 2 then .ok (.mk 1 t.num [] [] t.place) ts.tail else if t.kind = 3 then .ok (.mk 3 0 t.text [] t.place) ts.tail
  else if t.kind = 1 then namedP z e ts else if seesT z [[40]] ts then (enclosedP z e ts).bind fun l r => .ok (l.headD (.mk 0 0 [] [] 0)) r
  else (wordedP z e ts).bind fun x r => .ok (x.at t.place) r := by
  subst ht
  rfl
theorem tok_cells {w : World} {b : Nat} {t : Tok} (h : w.heap[b]? = some (tokO t)) : w.cell? ⟨b, 0, none⟩ = some (.int .i64 t.kind) ∧ w.cell? ⟨b, 1, none⟩ = some (.string (strN t.text)) ∧ w.cell? ⟨b, 2, none⟩ = some (.int .i64 t.num) ∧ w.cell? ⟨b, 3, none⟩ = some (.int .i64 t.place) := by
  have c : ∀ j, w.cell? ⟨b, j, none⟩ = #[Value.int .i64 t.kind, .string (strN t.text), .int .i64 t.num, .int .i64 t.place][j]? := fun j => cell_of_row _ _ _ _ _ _ h
  exact ⟨c 0, c 1, c 2, c 3⟩

set_option maxHeartbeats 3200000 in
theorem primary (R : Nat) (S : Src) (d : Nat) (hd : d ≤ 32) (e : Par Ex) (he : ExprOk R S (d + 1) e) (hT : Takes e) (hsm : S.all.length ≤ 4096) (ts : List Tok) (w : World) (ha : At w R S ts) :
    Calls Tryd.prog 93 #[.pointer (some ⟨R, 0, none⟩), .int .i64 d] w (Got R S (QE w.heap.size) w (primaryP S.z e ts)) := by
  have hR := ha.lt
  have hcast : ((d + 1 : Nat) : Int) = (d : Int) + 1 := rfl
  have H0 := Lib.hid (Res0.start ha [.int .i64 0, .int .i64 0, .string ⟨#[]⟩, .slice none 0 0, .int .i64 0] 39)
  have K := Lib.hid (peek R S ts _ H0.out.at')
  have HN := Lib.hid (fun w1 h => named R S (d + 1) e he hT hsm ts w1 h)
  have HD := Lib.hid (fun w1 h => worded R S (d + 1) e he ts w1 h)
  have HC := Lib.hid (fun w1 h => enclosed R S (d + 1) e he ts w1 h)
  obtain ⟨t, ht⟩ : ∃ t, peekT S.z ts = t := ⟨_, rfl⟩
  have HW := Lib.hid (primaryP_eq S.z e ts t ht)
  have HPT := Lib.hid ht
  rw [ht] at K
  simp only [tokV, tokC] at K
  rw [hcast] at HN HD HC
  clear ha he hT ht
  generalize primaryP S.z e ts = m at *
  go_enter Tryd.func93, Tryd.ntmps93
  go_wp2_with fail
  generalize w.alloc (.cells #[.int .i64 0, .int .i64 0, .string ⟨#[]⟩, .slice none 0 0, .int .i64 0] 39) = w0 at *
  refine K.out.mono ?_
  clear K
  rintro e' w1 ⟨rfl, hb1⟩
  have H1 := H0.out.below hb1 (Nat.le_refl _)
  have bt := below_alloc w1 (tokO t)
  have H2 := Lib.hid (H1.below bt (Nat.le_refl _))
  have T2 := heap_alloc_new w1 (tokO t)
  have s1 := H1.lt
  have hR1 := H1.at'.lt
  have hRne : R ≠ w1.heap.size := Nat.ne_of_lt hR1
  have hbne : w.heap.size ≠ w1.heap.size := Nat.ne_of_lt s1
  have HT2 := Lib.hid T2
  clear hb1 H1 bt T2
  by_cases k2 : t.kind = 2
  · have hk : ((t.kind : Int) == 2) = true := by rw [k2]; rfl
    have HW2 : Hid (m = .ok (.mk 1 t.num [] [] t.place) ts.tail) := by show _ = _; rw [HW.out, if_pos k2]
    obtain ⟨i, c1, f1, hi, h4, h5⟩ := H2.out.at'.step (k := 2) (by rw [HPT.out]; exact k2) (by omega)
    have H3 := Lib.hid (H2.out.moves h5 h4 hR)
    obtain ⟨_, _, q2, q3⟩ := tok_cells HT2.out
    clear h4 h5 k2
    go_upto_region 4 with fail
    generalize w1.alloc (tokO t) = w2 at *
    go_wp2_with (refine wpList_storeN info39s rfl (.tmp 4) (.tmp 24) rfl rfl w.heap.size rfl [_, _, _, _, _] rfl rfl H3.out.th (by simp [Value.oneCell']) ?_; intro w7 g1 g2 g3 g4 g5)
    refine bodyPost_ret (ret_cell (cs := [_, _, _, _, _]) Tryd.results93 Tryd.underlying39 rfl info39s _ _ w.heap.size rfl g1) rfl ?_
    exact .ok (H3.out.mv.low g3 (Nat.le_refl _)) HW2.out ⟨.slice none 0 0, rfl, ExsC.nothing _ _⟩ (H3.out.at'.other hR g4)
  · by_cases k3 : t.kind = 3
    · have hk : ((t.kind : Int) == 2) = false := by rw [k3]; rfl
      have hk' : ((t.kind : Int) == 3) = true := by rw [k3]; rfl
      have HW2 : Hid (m = .ok (.mk 3 0 t.text [] t.place) ts.tail) := by show _ = _; rw [HW.out, if_neg k2, if_pos k3]
      obtain ⟨i, c1, f1, hi, h4, h5⟩ := H2.out.at'.step (k := 3) (by rw [HPT.out]; exact k3) (by omega)
      have H3 := Lib.hid (H2.out.moves h5 h4 hR)
      obtain ⟨_, q1, _, q3⟩ := tok_cells HT2.out
      clear h4 h5 k2 k3
      go_upto_region 7 with fail
      generalize w1.alloc (tokO t) = w2 at *
      go_wp2_with (refine wpList_storeN info39s rfl (.tmp 4) (.tmp 38) rfl rfl w.heap.size rfl [_, _, _, _, _] rfl rfl H3.out.th (by simp [Value.oneCell']) ?_; intro w7 g1 g2 g3 g4 g5)
      refine bodyPost_ret (ret_cell (cs := [_, _, _, _, _]) Tryd.results93 Tryd.underlying39 rfl info39s _ _ w.heap.size rfl g1) rfl ?_
      exact .ok (H3.out.mv.low g3 (Nat.le_refl _)) HW2.out ⟨.slice none 0 0, rfl, ExsC.nothing _ _⟩ (H3.out.at'.other hR g4)
    · have hk : ((t.kind : Int) == 2) = false := by rw [beq_eq_false_iff_ne]; omega
      have hk' : ((t.kind : Int) == 3) = false := by rw [beq_eq_false_iff_ne]; omega
      by_cases k1 : t.kind = 1
      · have hk1 : ((t.kind : Int) == 1) = true := by rw [k1]; rfl
        have HW2 : Hid (m = namedP S.z e ts) := by show _ = _; rw [HW.out, if_neg k2, if_neg k3, if_pos k1]
        have K := Lib.hid (HN.out _ H2.out.at')
        clear k1 k2 k3
        go_wp2_with fail
        generalize w1.alloc (tokO t) = w2 at *
        refine K.out.mono ?_
        clear K
        rintro e' wl ⟨hm, ⟨x, rl, xv, hr, rfl, hq, hal⟩ | ⟨c, q, hr, rfl⟩⟩
        · obtain ⟨k, rfl, hx, _⟩ := exV_cells hq
          obtain ⟨A, cp, rfl⟩ := exsC_slice hx
          have HL := Lib.hid (H2.out.moves hm hal hR)
          have HX := Lib.hid hx
          have hlt := H2.out.lt
          have HR := Lib.hid hr
          clear hm hal hq hr hx
          go_wp2_with (refine wpList_storeN info39s rfl (.tmp 4) (.tmp 44) rfl rfl w.heap.size rfl [_, _, _, _, _] rfl rfl HL.out.th (by simp [Value.oneCell']) ?_; intro w7 g1 g2 g3 g4 g5)
          refine bodyPost_ret (ret_cell (cs := [_, _, _, _, _]) Tryd.results93 Tryd.underlying39 rfl info39s _ _ w.heap.size rfl g1) rfl ?_
          refine .ok (HL.out.mv.low g3 (Nat.le_refl _)) (by rw [HW2.out, HR.out]) ⟨_, rfl, ?_⟩ (HL.out.at'.other hR g4)
          exact (HX.out.same fun q h => g4 q (by have := h.1; omega)).more fun q h => ⟨by have := h.1; omega, by rw [g5]; exact h.2⟩
        · have HQ := Lib.hid (H2.out.mv.trans hm)
          clear hm
          go_wp2
          exact ⟨rfl, .bad HQ.out (by rw [HW2.out, hr])⟩
      · have hk1 : ((t.kind : Int) == 1) = false := by rw [beq_eq_false_iff_ne]; omega
        have HW2 : Hid (m = if seesT S.z [[40]] ts then (enclosedP S.z e ts).bind fun l r => .ok (l.headD (.mk 0 0 [] [] 0)) r else (wordedP S.z e ts).bind fun x r => .ok (x.at t.place) r) := by show _ = _; rw [HW.out, if_neg k2, if_neg k3, if_neg k1]
        have K := Lib.hid (sees_own R S ts [[40]] _ #[.string ⟨#[40]⟩] (by rw [show (⟨#[40]⟩ : ByteArray) = strN [40] by kernel_rfl]; rfl) 1 rfl (by omega) H2.out.at' (by simp; unfold Byn; decide))
        have s2 : (w1.alloc (tokO t)).heap.size = w1.heap.size + 1 := by simp
        rw [s2] at K
        clear k1 k2 k3
        cases hs : seesT S.z [[40]] ts with
        | true =>
          rw [hs] at K HW2
          clear hs
          go_wp2_with fail
          generalize w1.alloc (tokO t) = w2 at *
          refine K.out.mono ?_
          clear K
          rintro e' w3 ⟨rfl, hb3, ha3⟩
          have H3 := Lib.hid (H2.out.below hb3 (by omega))
          have K := Lib.hid (HC.out _ H3.out.at')
          clear hb3 ha3
          go_wp2_with fail
          refine K.out.mono ?_
          clear K
          rintro e' wl ⟨hm, ⟨l, rl, xv, hr, rfl, hq, hal⟩ | ⟨c, q, hr, rfl⟩⟩
          · obtain ⟨x, rfl⟩ := enclosed_one hr
            obtain ⟨g, cp, k, rfl, hcp, hcpm, ⟨l0, l1, l2, l3, l4⟩, hx⟩ := own_one hq
            obtain ⟨A, cq, rfl⟩ := exsC_slice hx
            have HL := Lib.hid (H3.out.moves hm hal hR)
            have HX := Lib.hid hx
            have hlt := H3.out.lt
            have HR := Lib.hid hr
            clear hm hal hq hr hx
            go_wp2_with (refine wpList_storeN info39s rfl (.tmp 4) (.tmp 53) rfl rfl w.heap.size rfl [_, _, _, _, _] rfl rfl HL.out.th (by simp [Value.oneCell']) ?_; intro w7 g1 g2 g3 g4 g5)
            refine bodyPost_ret (ret_cell (cs := [_, _, _, _, _]) Tryd.results93 Tryd.underlying39 rfl info39s _ _ w.heap.size rfl g1) rfl ?_
            refine .ok (HL.out.mv.low g3 (Nat.le_refl _)) (by rw [HW2.out, HR.out]; rfl) ⟨_, rfl, ?_⟩ (HL.out.at'.other hR g4)
            exact (HX.out.same fun q h => g4 q (by have := h.1; omega)).more fun q h => ⟨by have := h.1; omega, by rw [g5]; exact h.2⟩
          · have HQ := Lib.hid (H3.out.mv.trans hm)
            clear hm
            go_wp2
            exact ⟨rfl, .bad HQ.out (by rw [HW2.out, hr]; rfl)⟩
        | false =>
          rw [hs] at K HW2
          clear hs
          go_wp2_with fail
          generalize w1.alloc (tokO t) = w2 at *
          refine K.out.mono ?_
          clear K
          rintro e' w3 ⟨rfl, hb3, ha3⟩
          have H3 := Lib.hid (H2.out.below hb3 (by omega))
          have T3 := Lib.hid ((hb3.block w1.heap.size (by omega)).trans HT2.out)
          have s3 := hb3.size
          have K := Lib.hid (HD.out _ H3.out.at')
          clear hb3 ha3
          go_wp2_with fail
          refine K.out.mono ?_
          clear K
          rintro e' wl ⟨hm, ⟨x, rl, xv, hr, rfl, hq, hal⟩ | ⟨c, q, hr, rfl⟩⟩
          · obtain ⟨k, rfl, hx, _⟩ := exV_cells hq
            obtain ⟨A, cp, rfl⟩ := exsC_slice hx
            have HL := H3.out.moves hm hal hR
            have be4 := below_alloc wl (exO x (.slice A x.kids.length cp))
            have be5 := below_alloc wl (.cells #[.int .i64 x.op, .int .i64 x.num, .string (strN x.text), .slice A x.kids.length cp, .int .i64 t.place] 39)
            have T4 := (be4.block w1.heap.size (by have := hm.size; omega)).trans ((hm.block' (by omega) (by omega)).trans T3.out)
            have HL4 := Lib.hid (HL.below be5 (Nat.le_refl _))
            obtain ⟨_, _, _, q3⟩ := tok_cells T4
            have HX := Lib.hid (hx.same fun q h => be5.block q h.2)
            have hlt := H3.out.lt
            have sl := hm.size
            have s4 : (wl.alloc (.cells #[.int .i64 x.op, .int .i64 x.num, .string (strN x.text), .slice A x.kids.length cp, .int .i64 t.place] 39)).heap.size = wl.heap.size + 1 := by simp
            have HR := Lib.hid hr
            have hne5 : w1.heap.size ≠ wl.heap.size := by omega
            clear hm hal hq hr hx be4 be5 T4 HL
            go_wp2_with (refine wpList_storeN info39s rfl (.tmp 4) (.tmp 61) rfl rfl w.heap.size rfl [_, _, _, _, _] rfl rfl HL4.out.th (by simp [Value.oneCell']) ?_; intro w7 g1 g2 g3 g4 g5)
            refine bodyPost_ret (ret_cell (cs := [_, _, _, _, _]) Tryd.results93 Tryd.underlying39 rfl info39s _ _ w.heap.size rfl g1) rfl ?_
            refine .ok (HL4.out.mv.low g3 (Nat.le_refl _)) (v := x.at t.place) (by rw [HW2.out, HR.out]; rfl) ⟨_, rfl, ?_⟩ (HL4.out.at'.other hR g4)
            exact (HX.out.same fun q h => g4 q (by have := h.1; omega)).more fun q h => ⟨by have := h.1; omega, by rw [g5, s4]; have := h.2; omega⟩
          · have HQ := Lib.hid (H3.out.mv.trans hm)
            clear hm
            go_wp2
            exact ⟨rfl, .bad HQ.out (by rw [HW2.out, hr]; rfl)⟩
end Go.Proofs.YtoicncfpoklanaaDoor
