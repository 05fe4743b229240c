/- 'Undo' of a journal, where its row has room behind. Conditions: the journal lies in memory. -/
import Derived.Test.YtncbbjodianmoaaJh
namespace Go.Proofs.Ytncbbjodianmoaa
open Go.RowKit Go.Shelf
attribute [local go_sem] Oper.semAt_some
set_option linter.unusedSimpArgs false
set_option linter.unusedVariables false

set_option maxRecDepth 100000 in
set_option maxHeartbeats 4000000 in
theorem undoC_lt (n0 : Nat) (w : World) (J : Nat) (hs : List (List PR)) (cur : List PR) (h : Jr n0 w J hs cur) (m : Nat) (hm : m ≤ hs.length) (res : List PR) (hres : (hs ++ [cur])[m]? = some res) (hcond : ∀ R cr, w.cell? ⟨J, 1, none⟩ = some (.slice R hs.length cr) → cr ≠ m) :
    Calls Try.prog 16 #[.pointer (some ⟨J, 0, none⟩), .int .i64 m] w fun e w' => e = .returned (.int .i64 0) ∧ Chd n0 J w (hs.take m) res w' := by
  have H := Lib.hid h
  obtain ⟨A, c, R, cr, fs, Fs, h1, h2, h3, h4, h5, h7, h8, h9, h10⟩ := h.ex
  obtain ⟨g0, g1, g2, g3⟩ := cells2 h1
  obtain ⟨_, _, e, q1, q2, q3⟩ := own_lies h5.1
  injection e with e _ e'
  subst e e'
  have hcm := hcond R cr g1
  clear hcond
  have hlen := h.len
  have hm' : (m : Int) ≤ (hs.length : Int) := by omega
  have HM : Hid (∀ W, Below w.heap.size w W → Calls Try.prog 20 #[.pointer (some ⟨J, 0, none⟩)] W fun e w' => e = .returned (.int .i64 hs.length) ∧ W = w') := fun W hb => markC n0 W J hs cur (H.out.on hb)
  have HB0 := Lib.hid (below_alloc w (.cells #[.pointer (some ⟨J, 0, none⟩)] 25))
  have hjl := h.sp.lt
  have hfl : fs.length = hs.length := by have := h5.1.1; omega
  unfold maxLen at q2
  have f1 : m ≤ cr := by omega
  have hn0 : ¬ ((m : Int) < 0) := by omega
  have HD : Hid (w.heap[J]? = some (.cells #[.slice A cur.length c, .slice R hs.length cr] 54 (0, 0)) ∧ cur.length ≤ c ∧ c ≤ maxLen ∧ PrsX n0 w A c cur ∧ Rws n0 w 60 (.slice R hs.length cr) hs.length fs ∧ Fs.length = hs.length ∧ (∀ (i : Nat) (f : Value) (F : List PR → List PR), fs[i]? = some f → Fs[i]? = some F → Acts n0 w f F) ∧ (∀ F ∈ Fs, Mild F) ∧ Chain (hs ++ [cur]) Fs) := ⟨h1, h2, h3, h4, h5, h7, h8, h9, h10⟩
  have HRES : Hid (m ≤ hs.length ∧ (hs ++ [cur])[m]? = some res) := ⟨hm, hres⟩
  clear h h1 h2 h3 h4 h5 h7 h8 h9 h10 q3 hres
  refine (callsIn_wide (n := 5)).1 ?_
  refine callsIn_of_wp_marks Try.func16 rfl trivial ?_ rfl
  simp only [Try.ntmps16, List.size_toArray, List.length_cons, List.length_nil, Nat.reduceAdd, Nat.reduceSub, Array.replicate_succ, Array.replicate_zero, List.push_toArray, List.append_toArray, List.nil_append, List.cons_append]
  refine wpIn_wide.2 ?_
  obtain ⟨R', hR'⟩ : ∃ R', Option.map (fun (x : Addr) => x.add m) R = R' := ⟨_, rfl⟩
  go_wp2_with (first | (go_at_call 20; refine (HM.out _ HB0.out).mono ?_; rintro e w' ⟨rfl, rfl⟩) | (go_at_call 38; refine (backwardC _ _ _ _).mono ?_; rintro e w' ⟨rfl, rfl⟩))
  have hb2 := below_alloc (w.alloc (.cells #[.pointer (some ⟨J, 0, none⟩)] 25)) (.cells #[.slice R' (hs.length - m) (cr - m)] 52)
  obtain ⟨w1, hw1⟩ : ∃ w1, w1 = (w.alloc (.cells #[.pointer (some ⟨J, 0, none⟩)] 25)).alloc (.cells #[.slice R' (hs.length - m) (cr - m)] 52) := ⟨_, rfl⟩
  have hbox : w1.heap[w.heap.size]? = some (.cells #[.pointer (some ⟨J, 0, none⟩)] 25 (0, 0)) := by
    rw [hw1, hb2.block _ (by simp)]
    exact heap_alloc_new w _
  have hbs : w1.heap[w.heap.size + 1]? = some (.cells #[.slice R' (hs.length - m) (cr - m)] 52 (0, 0)) := by
    have := heap_alloc_new (w.alloc (.cells #[.pointer (some ⟨J, 0, none⟩)] 25)) (.cells #[.slice R' (hs.length - m) (cr - m)] 52)
    rw [World.size_alloc] at this
    rw [hw1]
    exact this
  have hsz1 : w1.heap.size = w.heap.size + 2 := by rw [hw1]; simp
  have hB1 : Below w.heap.size w w1 := by rw [hw1]; exact HB0.out.trans (hb2.mono HB0.out.size)
  rw [← hw1]
  clear hb2 hw1
  have HB1 : Hid (Below w.heap.size w w1 ∧ w1.heap.size = w.heap.size + 2 ∧ w1.heap[w.heap.size]? = some (.cells #[.pointer (some ⟨J, 0, none⟩)] 25 (0, 0)) ∧ w1.heap[w.heap.size + 1]? = some (.cells #[.slice R' (hs.length - m) (cr - m)] 52 (0, 0))) := ⟨hB1, hsz1, hbox, hbs⟩
  have hgl : (fs.drop m).length = (hs.length - m) := by rw [List.length_drop, hfl]
  have hgb : w1.cell? ⟨w.heap.size + 1, 0, none⟩ = some (.slice R' (fs.drop m).length (cr - m)) := by rw [hgl]; simp [World.cell?, hbs]
  have HC : Hid (∀ j, j < (fs.drop m).length → ∃ g o, R' = some ⟨g, o, none⟩ ∧ (g = w.heap.size + 1 ∨ (Value.slice R hs.length cr).ownBlock = some g) ∧ w1.cell? ⟨g, o + j, none⟩ = some ((fs.drop m).getD j lv)) := by
    intro j hj
    rw [hgl] at hj
    have h5 := HD.out.2.2.2.2.1
    rcases h5.1.2 with ⟨e, _⟩ | ⟨g, cap, cur', e, _, g3, _⟩
    · injection e with _ e _
      omega
    · injection e with e _ _
      subst e
      refine ⟨g, 0 + m, by rw [← hR']; simp [Addr.add_mid], .inr rfl, ?_⟩
      have hg : fs[m + j]? = some ((fs.drop m).getD j lv) := by
        rw [List.getD, List.getElem?_drop, List.getElem?_eq_getElem (by omega)]
        rfl
      have hx := h5.1.cells (g := g) rfl (m + j) _ hg
      rw [Addr.add_mid] at hx
      rw [HB1.out.1.cell (p := ⟨g, 0 + m + j, none⟩) (h5.1.lt g rfl).2, show 0 + m + j = 0 + (m + j) by omega]
      exact hx
  have HDl : Hid (∀ b, (b = w.heap.size + 1 ∨ (Value.slice R hs.length cr).ownBlock = some b) → b < w1.heap.size ∧ b ≠ J) := by
    rintro b (rfl | hb)
    · exact ⟨by omega, by omega⟩
    · have := (HD.out.2.2.2.2.1.1.lt b hb).2
      refine ⟨by omega, ?_⟩
      obtain ⟨cs, ht⟩ := HD.out.2.2.2.2.1.tag hb
      exact tag_ne ht HD.out.1 (by decide)
  have HSM : Hid (∀ pre : List Nat, pre.length ≤ 1000 → Sm 100000 (back (Fs.drop m) cur pre)) := fun pre hp => by
    have := back_sm (Fs := Fs.drop m) (fun F hF => HD.out.2.2.2.2.2.2.2.1 F (List.mem_of_mem_drop hF)) (r := 256) (is := pre) (cur := cur) (right_sm H.out.cur)
    exact this.more (by omega)
  have HACT : Hid (∀ x W, Off n0 w1 W → Acts n0 W ((fs.drop m).getD x lv) ((Fs.drop m).getD x id)) := fun x W ho => by
    rw [List.getD, List.getD, List.getElem?_drop, List.getElem?_drop]
    rcases Nat.lt_or_ge (m + x) fs.length with hlt | hge
    · rw [List.getElem?_eq_getElem hlt, List.getElem?_eq_getElem (by rw [HD.out.2.2.2.2.2.1, ← hfl]; exact hlt)]
      exact (HD.out.2.2.2.2.2.2.1 _ _ _ (List.getElem?_eq_getElem hlt) (List.getElem?_eq_getElem (by rw [HD.out.2.2.2.2.2.1, ← hfl]; exact hlt))).off ((Off.of HB1.out.1).trans ho)
    · rw [List.getElem?_eq_none hge, List.getElem?_eq_none (by rw [HD.out.2.2.2.2.2.1, ← hfl]; exact hge)]
      exact leave_acts n0 W
  have hst := back_stops (5 - 1) (by omega) (w.heap.size + 1) (fun b => b = w.heap.size + 1 ∨ (Value.slice R hs.length cr).ownBlock = some b) R' (cr - m) (fs.drop m) (by omega) w1 hgb (.inl rfl) (fun b hb => (HDl.out b hb).1) HC.out
  refine (wpIn_wide (n := 5)).1 ?_
  refine wpIn_rangeFunc_ownG rfl (by omega) (gf := 54) (lb := #[.pointer (some ⟨w.heap.size + 1, 0, none⟩)]) rfl trivial (enters_of Try.func54 (by kernel_rfl) rfl) hst
    (fun h k => KpD.t h k) (KpD.b fun b hb => (HDl.out b hb).1) (Below.refl _ _) (fun _ => rfl)
    (Loopd n0 J w1 cur (Fs.drop m) (.slice R hs.length cr)) (fun _ _ _ => False) (Loopd.own (by have := H.out.hJ; omega) (by omega)) (fun _ _ _ _ _ hs _ _ => hs)
    ⟨.refl _ _, fun _ _ _ => rfl, A, c, by rw [HB1.out.1.block J hjl]; exact HD.out.1, HD.out.2.1, HD.out.2.2.1, HD.out.2.2.2.1.on HB1.out.1⟩
    (fun x => { tmps := #[.pointer (some ⟨J, 0, none⟩), .int .i64 (m : Nat), .pointer (some ⟨w.heap.size, 0, none⟩), undef, .int .i64 0, undef, (fs.drop m).getD x lv, .int .i64 (m : Nat), .bool false, .bool false, .int .i64 (m : Nat), .pointer (some ⟨J, 0, none⟩), .int .i64 hs.length, .bool false, .bool false, .pointer (some ⟨J, 0, none⟩), .pointer (some ⟨J, 0, none⟩), .pointer (some ⟨J, 1, none⟩), .slice R hs.length cr, .int .i64 (m : Nat), .slice R' (hs.length - m) (cr - m), .func (.func 54) #[] #[.pointer (some ⟨w.heap.size + 1, 0, none⟩)], .int .i64 (x : Int), (fs.drop m).getD x lv, undef, undef, undef, undef, undef, undef, undef, undef, undef, undef, undef, undef, undef, undef, undef, undef, undef, undef, undef, undef], defers := [] }) ?assign ?body ?done ?stop
  case assign =>
    intro l x W K hK
    clear hst
    dsimp only [encB] at hK ⊢
    generalize (fs.drop m).getD x lv = v at hK ⊢
    gi_wp2
    exact hK
  case stop =>
    rintro D c pre W _ _ h _
    exact h.elim
  case body =>
    clear hst
    rintro l pre x W hI hlen
    obtain ⟨o1, o2, A', c', k1, k2, k3, k4⟩ := hI
    obtain ⟨fn, lb, ef, hent, hact⟩ := HACT.out x W o1
    have hsm := HSM.out pre (by omega)
    have hnx : back (Fs.drop m) cur (pre ++ [x]) = ((Fs.drop m).getD x id) (back (Fs.drop m) cur pre) := back_snoc _ _ _ _
    have HPOST : Hid (∀ a w2 A2 c2, Below W.heap.size W w2 → (((Fs.drop m).getD x id) (back (Fs.drop m) cur pre)).length ≤ c2 → c2 ≤ maxLen → PrsX n0 w2 A2 c2 (((Fs.drop m).getD x id) (back (Fs.drop m) cur pre)) →
        ownPostG w1.heap.size (KpD fun b => b = w.heap.size + 1 ∨ (Value.slice R hs.length cr).ownBlock = some b) (Loopd n0 J w1 cur (Fs.drop m) (.slice R hs.length cr)) (fun _ _ _ => False) (pre ++ [x]) W .normal a (w2.setCell ⟨J, 0, none⟩ (.slice A2 (((Fs.drop m).getD x id) (back (Fs.drop m) cur pre)).length c2))) := by
      intro a w2 A2 c2 hb j1 j2 j3
      have hJ1 : J < w1.heap.size := by omega
      have hsz : w1.heap.size ≤ W.heap.size := o1.size
      have hk2 : w2.heap[J]? = some (.cells #[.slice A' (back (Fs.drop m) cur pre).length c', .slice R hs.length cr] 54 (0, 0)) := by rw [hb.block J (by omega)]; exact k1
      have hk3 := (heap_set2 hk2 (.slice A2 (((Fs.drop m).getD x id) (back (Fs.drop m) cur pre)).length c2)).1
      have hs2 : Off n0 w2 (w2.setCell ⟨J, 0, none⟩ (.slice A2 (((Fs.drop m).getD x id) (back (Fs.drop m) cur pre)).length c2)) := Off.set2 ⟨H.out.hJ, _, 54, _, hk2, .inl rfl, noI_two⟩ ⟨H.out.hJ, _, 54, _, hk3, .inl rfl, noI_two⟩
      refine ⟨⟨by rw [setCell_size]; exact hb.size, fun k o hk1 ho hno => ?_⟩, fun b hb' => ?_, (o1.then hb).trans hs2, fun b hb' hne => ?_, A2, c2, ?_, ?_, j2, ?_⟩
      · rw [heap_setCell_far _ _ _ _ _ (by omega), hb.block k (Array.getElem?_eq_some_iff.1 ho).1]
        exact ho
      · obtain ⟨g1, g2⟩ := HDl.out b hb'
        rw [heap_setCell_far _ _ _ _ _ g2]
        exact hb.block b (by omega)
      · rw [heap_setCell_far _ _ _ _ _ hne, hb.block b (by omega)]
        exact o2 b hb' hne
      · rw [hnx]; exact hk3
      · rw [hnx]; exact j1
      · rw [hnx]; exact j3.off hs2
    have HK : Hid (Calls Try.prog fn (#[.slice A' (back (Fs.drop m) cur pre).length c'] ++ lb) W.drew (NewX n0 W.drew (((Fs.drop m).getD x id) (back (Fs.drop m) cur pre)))) :=
      hact W.drew (.of (Below.refl _ _).drew) A' c' _ hsm k2 k3 (k4.on (Below.refl _ _).drew)
    generalize ownPostG w1.heap.size (KpD fun b => b = w.heap.size + 1 ∨ (Value.slice R hs.length cr).ownBlock = some b) (Loopd n0 J w1 cur (Fs.drop m) (.slice R hs.length cr)) (fun _ _ _ => False) (pre ++ [x]) W = Q at *
    have hk3 : c' ≤ 9223372036854775807 := by unfold maxLen at k3; omega
    have hcb : W.cell? ⟨w.heap.size, 0, none⟩ = some (.pointer (some ⟨J, 0, none⟩)) := by
      rw [World.cell?_of_block (a := ⟨w.heap.size, 0, none⟩) (w := w1) (o2 _ (by show w.heap.size < _; omega) (by show w.heap.size ≠ J; omega))]
      simp [World.cell?, HB1.out.2.2.1]
    have hsmall := HSM
    clear hnx HSM hsmall hact hsm k3 k4 o1 hlen
    generalize ((Fs.drop m).getD x id) (back (Fs.drop m) cur pre) = nx at *
    generalize back (Fs.drop m) cur pre = cu at *
    generalize (fs.drop m).getD x lv = f at *
    subst ef
    obtain ⟨j0, j1, j2, j3⟩ := cells2 k1
    have HJC : Hid (∀ w2, Below W.drew.heap.size W.drew w2 → w2.cell? ⟨w.heap.size, 0, none⟩ = some (.pointer (some ⟨J, 0, none⟩)) ∧ w2.cell? ⟨J, 0, none⟩ = some (.slice A' cu.length c') ∧ w2.frozen? ⟨J, 0, none⟩ = false) := fun w2 hb =>
      ⟨by rw [hb.cell (p := ⟨w.heap.size, 0, none⟩) (World.block_lt_of_cell? W _ hcb)]; exact hcb, by rw [hb.cell (p := ⟨J, 0, none⟩) (World.block_lt_of_cell? W _ j0)]; exact j0, by rw [hb.frozen (p := ⟨J, 0, none⟩) (World.block_lt_of_cell? W _ j0)]; exact j2⟩
    unfold Ent at hent
    have hmx : Try.prog.follows .mixedOrders = true := by kernel_rfl
    dsimp only
    clear k1 o2 hgb hgl hbox hbs HC HDl HACT hB1 hsz1 HD HRES HM HB0 HB1 H g0 g1 g2 g3 f1 q1 q2 hfl hn0
    gi_wp2
    gi_region_with_o (refine ⟨trivial, ?_⟩; refine (CallsIn.inRound l (callsIn_wide.2 HK.out)).mono ?_; rintro e w2 ⟨A2, c2, rfl, p1, p2, p3, p4⟩; have HP := Lib.hid (HPOST.out · w2 A2 c2 ((Below.refl _ _).drew.trans p4) p1 p2 p3); obtain ⟨y0, y1, y2⟩ := HJC.out w2 p4; clear p1 p2 p3 p4)
    all_goals gi_wp2
    all_goals exact HP.out _
  case done =>
    clear hst
    rintro D ys W hDs rfl hI hKD
    obtain ⟨o1, o2, A', c', k1, k2, k3, k4⟩ := hI
    have hbk : back (Fs.drop m) cur (lasts (fs.drop m).length (fs.drop m).length) = res := by
      rw [hgl]
      exact back_res HD.out.2.2.2.2.2.2.2.2 HD.out.2.2.2.2.2.1 HRES.out.1 HRES.out.2
    rw [hbk] at k1 k2 k4
    clear hbk
    have hJd : J < D := by omega
    have hDc : W.heap[D]? = some (.deferred (some [])) := hKD
    have HK0 := Lib.hid hKD
    have HO1 : Hid (Off n0 w1 W ∧ (∀ b, b < w1.heap.size → b ≠ J → W.heap[b]? = w1.heap[b]?) ∧ W.heap[J]? = some (.cells #[.slice A' res.length c', .slice R hs.length cr] 54 (0, 0)) ∧ res.length ≤ c' ∧ c' ≤ maxLen ∧ PrsX n0 W A' c' res) := ⟨o1, o2, k1, k2, k3, k4⟩
    obtain ⟨j0, j1, j2, j3⟩ := cells2 k1
    have hcb : W.drew.cell? ⟨w.heap.size, 0, none⟩ = some (.pointer (some ⟨J, 0, none⟩)) := by
      show W.cell? _ = _
      rw [World.cell?_of_block (a := ⟨w.heap.size, 0, none⟩) (w := w1) (o2 _ (by show w.heap.size < _; omega) (by show w.heap.size ≠ J; omega))]
      simp [World.cell?, HB1.out.2.2.1]
    have hRW : Rws n0 W 60 (.slice R hs.length cr) hs.length fs := (HD.out.2.2.2.2.1.on HB1.out.1).keep fun g hg => o2 g (HDl.out g (.inr hg)).1 (HDl.out g (.inr hg)).2
    have HRW := Lib.hid hRW
    have KM : Hid (Calls Try.prog 20 #[.pointer (some ⟨J, 0, none⟩)] W.drew fun e w' => e = .returned (.int .i64 hs.length) ∧ W.drew = w') := markRaw W.drew J R hs.length cr j1
    have KD : Hid (Calls Try.prog 39 #[.slice R hs.length cr, .int .i64 (m : Nat), .int .i64 hs.length] W.drew (Deld n0 R m cr fs W.drew)) := deleteC n0 W.drew R hs.length m cr fs (hRW.on (Below.refl _ _).drew) HRES.out.1 hlen
    have hobk : ∀ b, (Value.slice R m cr).ownBlock = some b → b < w.heap.size ∧ b ≠ J ∧ b ≠ w.heap.size ∧ Jb w J b := fun b hb => by
      have hb' : (Value.slice R hs.length cr).ownBlock = some b := by cases R <;> exact hb
      have h1 := (HD.out.2.2.2.2.1.1.lt b hb').2
      exact ⟨h1, (HDl.out b (.inr hb')).2, by omega, .inr ⟨_, b, g1, hb', rfl⟩⟩
    have HS5 : Hid (∀ w5, W.drew.grownBy w5 (Value.slice R m cr).ownBlock → w5.cell? ⟨J, 1, none⟩ = some (.slice R hs.length cr) ∧ w5.frozen? ⟨J, 1, none⟩ = false ∧ w5.cell? ⟨w.heap.size, 0, none⟩ = some (.pointer (some ⟨J, 0, none⟩))) := fun w5 hg => by
      have hJ5 : w5.heap[J]? = W.heap[J]? := hg.block J (by have := o1.size; show J < W.heap.size; omega) fun e => (hobk J e.symm).2.1 rfl
      have hJ6 := cells2 (hJ5.trans k1)
      refine ⟨hJ6.2.1, hJ6.2.2.2, ?_⟩
      exact hg.cell hcb fun e => (hobk _ e.symm).2.2.1 rfl
    have HFIN : Hid (∀ w5, Rws n0 w5 60 (.slice R m cr) m (fs.take m) → Off n0 W.drew w5 → W.drew.grownBy w5 (Value.slice R m cr).ownBlock →
        (w5.setCell ⟨J, 1, none⟩ (.slice R m cr)).cell? ⟨w.heap.size, 0, none⟩ = some (.pointer (some ⟨J, 0, none⟩)) ∧ (w5.setCell ⟨J, 1, none⟩ (.slice R m cr)).heap[D]? = some (.deferred (some [])) ∧ Chd n0 J w (hs.take m) res ((w5.setCell ⟨J, 1, none⟩ (.slice R m cr)).putObj D (.deferred none))) := fun w5 d1 d2 d3 => by
      have hJ5 : w5.heap[J]? = some (.cells #[.slice A' res.length c', .slice R hs.length cr] 54 (0, 0)) := (d3.block J (by have := o1.size; show J < W.heap.size; omega) fun e => (hobk J e.symm).2.1 rfl).trans k1
      have hJ6 := (heap_set2 hJ5 (.slice R m cr)).2
      have hs2 : Off n0 w5 (w5.setCell ⟨J, 1, none⟩ (.slice R m cr)) := Off.set2 ⟨H.out.hJ, _, 54, _, hJ5, .inl rfl, noI_two⟩ ⟨H.out.hJ, _, 54, _, hJ6, .inl rfl, noI_two⟩
      have hDW : D < W.heap.size := (Array.getElem?_eq_some_iff.1 HK0.out).1
      have hD5 : w5.heap[D]? = some (.deferred (some [])) := (d3.block D hDW fun e => by have := (hobk D e.symm).1; omega).trans HK0.out
      have hD6 : (w5.setCell ⟨J, 1, none⟩ (.slice R m cr)).heap[D]? = some (.deferred (some [])) := (heap_setCell_far _ _ _ _ _ (by omega)).trans hD5
      have hD7 : Off n0 (w5.setCell ⟨J, 1, none⟩ (.slice R m cr)) ((w5.setCell ⟨J, 1, none⟩ (.slice R m cr)).putObj D (.deferred none)) := .other (grownBy_putObj' _ D _) (not_cel hD6 rfl) (by have := H.out.hJ; omega)
      have hoW : Off n0 W ((w5.setCell ⟨J, 1, none⟩ (.slice R m cr)).putObj D (.deferred none)) := (((Off.of (Below.refl _ _).drew).trans d2).trans hs2).trans hD7
      have how : Off n0 w ((w5.setCell ⟨J, 1, none⟩ (.slice R m cr)).putObj D (.deferred none)) := ((Off.of HB1.out.1).trans o1).trans hoW
      have hput : ∀ b, b ≠ D → ((w5.setCell ⟨J, 1, none⟩ (.slice R m cr)).putObj D (.deferred none)).heap[b]? = (w5.setCell ⟨J, 1, none⟩ (.slice R m cr)).heap[b]? := fun b hb => World.putObj_heap_other hb
      have hlt : (hs.take m).length = m := by rw [List.length_take]; omega
      refine ⟨?_, hD6, how, fun b hb hnb => ?_, H.out.hJ, by rw [hlt]; omega, fun s hs' => ?_, A', c', R, cr, fs.take m, Fs.take m, ?_, k2, k3, k4.off hoW, ?_, by rw [hlt, List.length_take, HD.out.2.2.2.2.2.1]; omega, fun i f F g1 g2 => ?_, fun F hF => HD.out.2.2.2.2.2.2.2.1 F (List.mem_of_mem_take hF), chain_take HD.out.2.2.2.2.2.2.2.2 HRES.out.1 HRES.out.2⟩
      · rw [World.cell?_of_block (a := ⟨w.heap.size, 0, none⟩) (w := w5) (heap_setCell_far _ _ _ _ _ (by show w.heap.size ≠ J; omega))]
        exact d3.cell hcb fun e => (hobk _ e.symm).2.2.1 rfl
      · have hbJ : b ≠ J := fun e => hnb (.inl e)
        rw [hput b (by omega), heap_setCell_far _ _ _ _ _ hbJ, d3.block b (by have := o1.size; show b < W.heap.size; omega) fun e => hnb (hobk b e.symm).2.2.2]
        exact (o2 b (by omega) hbJ).trans (HB1.out.1.block b hb)
      · rcases List.mem_append.1 hs' with e | e
        · exact H.out.right s (List.mem_append_left _ (List.mem_of_mem_take e))
        · obtain rfl : s = res := by simpa using e
          exact H.out.right s (List.mem_of_getElem? HRES.out.2)
      · rw [hput J (by omega), hJ6, hlt]
      · rw [hlt]
        exact d1.keep fun g hg => by
          have := hobk g hg
          rw [hput g (by omega), heap_setCell_far _ _ _ _ _ this.2.1]
      · rw [List.getElem?_take] at g1 g2
        split at g1
        · rw [if_pos (by assumption)] at g2
          exact (HD.out.2.2.2.2.2.2.1 i f F g1 g2).off how
        · cases g1
    clear k1 k2 k3 k4 o1 o2 hRW hobk hKD hDc HC HDl HSM HACT hgb hgl hbox hbs hB1 hsz1 HD HB1 HO1 HRW H HRES HM HB0 HK0 g0 g1 g2 g3 hjl hfl hn0 hJd hDs
    go_wp2_with fail
    refine wp_normal ?_
    refine wp_region_held_drew (S := fun w' => w'.cell? ⟨w.heap.size, 0, none⟩ = some (.pointer (some ⟨J, 0, none⟩))) (by kernel_rfl) hcb (fun hHeld => ?_)
    refine wpAnyH_take (i := 0) (v := ?vu1) rfl (by kernel_rfl) (by kernel_rfl) (by kernel_rfl) (fun _ _ _ h => by cases h.1) (Or.inl ⟨by kernel_rfl, ?yu1⟩) (by assumption) ?ru1
    case yu1 => (intro w hSw; (try dsimp only at hSw); go_simp; (try with_reducible rfl))
    try simp only [Act.put, List.getElem_toArray, List.getElem_cons_zero, List.getElem_cons_succ, List.setIfInBounds_toArray, List.set_cons_zero, List.set_cons_succ]
    refine wpAnyH_take (i := 1) (v := ?vu2) rfl (by kernel_rfl) (by kernel_rfl) (by kernel_rfl) (fun _ _ _ h => by cases h.1) (Or.inl ⟨by kernel_rfl, ?yu2⟩) (by assumption) ?ru2
    case yu2 => (intro w hSw; (try dsimp only at hSw); go_simp; (try with_reducible rfl))
    try simp only [Act.put, List.getElem_toArray, List.getElem_cons_zero, List.getElem_cons_succ, List.setIfInBounds_toArray, List.set_cons_zero, List.set_cons_succ]
    refine wpAnyH_take (i := 2) (v := ?vu3) rfl (by kernel_rfl) (by kernel_rfl) (by kernel_rfl) (fun _ _ _ h => by cases h.1) (Or.inl ⟨by kernel_rfl, ?yu3⟩) (by assumption) ?ru3
    case yu3 => (intro w hSw; (try dsimp only at hSw); go_simp; (try with_reducible rfl))
    try simp only [Act.put, List.getElem_toArray, List.getElem_cons_zero, List.getElem_cons_succ, List.setIfInBounds_toArray, List.set_cons_zero, List.set_cons_succ]
    refine wpAnyH_take (i := 3) (v := ?vu4) rfl (by kernel_rfl) (by kernel_rfl) (by kernel_rfl) (fun _ _ _ h => by cases h.1) (Or.inl ⟨by kernel_rfl, ?yu4⟩) (by assumption) ?ru4
    case yu4 => (intro w hSw; (try dsimp only at hSw); go_simp; (try with_reducible rfl))
    try simp only [Act.put, List.getElem_toArray, List.getElem_cons_zero, List.getElem_cons_succ, List.setIfInBounds_toArray, List.set_cons_zero, List.set_cons_succ]
    refine wpAnyH_take (i := 5) (v := ?vu5) rfl (by kernel_rfl) (by kernel_rfl) (by kernel_rfl) (fun _ _ _ h => by cases h.1) (Or.inl ⟨by kernel_rfl, ?yu5⟩) (by assumption) ?ru5
    case yu5 => (intro w hSw; (try dsimp only at hSw); go_simp; (try with_reducible rfl))
    try simp only [Act.put, List.getElem_toArray, List.getElem_cons_zero, List.getElem_cons_succ, List.setIfInBounds_toArray, List.set_cons_zero, List.set_cons_succ]
    refine wpAnyH_take (i := 6) (v := ?vu6) rfl (by kernel_rfl) (by kernel_rfl) (by kernel_rfl) (fun _ _ _ h => by cases h.1) (Or.inl ⟨by kernel_rfl, ?yu6⟩) (by assumption) ?ru6
    case yu6 => (intro w hSw; (try dsimp only at hSw); go_simp; (try with_reducible rfl))
    try simp only [Act.put, List.getElem_toArray, List.getElem_cons_zero, List.getElem_cons_succ, List.setIfInBounds_toArray, List.set_cons_zero, List.set_cons_succ]
    refine wpAnyH_ready (rs := [4, 7]) (by kernel_rfl) (by simp) ?_
    refine AllReadyH.cons rfl (fun K hK => ?_) (AllReadyH.cons rfl (fun K hK => ?_) AllReadyH.nil)
    · skip
      go_simp
      refine hK.out _ _ hHeld (fun hHeld => ?_)
      clear hK K
      refine wpAnyH_ready (rs := [7]) (by kernel_rfl) (by simp) ?_
      refine AllReadyH.cons rfl (fun K hK => ?_) AllReadyH.nil
      go_simp
      (with_reducible refine KM.out.mono ?_)
      rintro e w4 ⟨rfl, rfl⟩
      go_wp2_with fail
      refine hK.out _ _ hHeld (fun hHeld => ?_)
      clear hK K
      refine wpAnyH_ready (rs := [8]) (by kernel_rfl) (by simp) ?_
      refine AllReadyH.cons rfl (fun K hK => ?_) AllReadyH.nil
      go_simp
      (with_reducible refine KD.out.mono ?_)
      rintro e w5 ⟨rfl, hd1, hd2, hd3⟩
      have HF := Lib.hid (HFIN.out w5 hd1 hd2 hd3)
      obtain ⟨y1, y2, y3⟩ := HS5.out w5 hd3
      clear hd1 hd2 hd3
      go_wp2_with fail
      refine hK.out _ _ y3 (fun hHeld => ?_)
      clear hK K
      refine wpAnyH_take (i := 9) (v := ?vu7) rfl (by kernel_rfl) (by kernel_rfl) (by kernel_rfl) (fun _ _ _ h => by cases h.1) (Or.inl ⟨by kernel_rfl, ?yu7⟩) (by assumption) ?ru7
      case yu7 => (intro w hSw; (try dsimp only at hSw); go_simp; (try with_reducible rfl))
      try simp only [Act.put, List.getElem_toArray, List.getElem_cons_zero, List.getElem_cons_succ, List.setIfInBounds_toArray, List.set_cons_zero, List.set_cons_succ]
      refine wpAnyH_take (i := 10) (v := ?vu8) rfl (by kernel_rfl) (by kernel_rfl) (by kernel_rfl) (fun _ _ _ h => by cases h.1) (Or.inl ⟨by kernel_rfl, ?yu8⟩) (by assumption) ?ru8
      case yu8 => (intro w hSw; (try dsimp only at hSw); go_simp; (try with_reducible rfl))
      try simp only [Act.put, List.getElem_toArray, List.getElem_cons_zero, List.getElem_cons_succ, List.setIfInBounds_toArray, List.set_cons_zero, List.set_cons_succ]
      refine wpAnyH_ready (rs := [11]) (by kernel_rfl) (by simp) ?_
      refine AllReadyH.cons rfl (fun K hK => ?_) AllReadyH.nil
      go_simp
      refine hK.out _ _ HF.out.1 (fun hHeld => ?_)
      clear hK K
      refine wpAnyH_done (by kernel_rfl) ?_ _
      refine ⟨rfl, ?_⟩
      have hKD := HF.out.2.1
      have HFF := Lib.hid HF.out.2.2
      clear HF hHeld y1 y2 y3
      go_wp2
      refine ⟨by simp, .inl ⟨_, _, rfl, run_takeDeferred hKD, ?_⟩⟩
      exact ⟨_, results_tmp rfl _ _ _, rfl, HFF.out⟩
    · skip
      go_simp
      (with_reducible refine KM.out.mono ?_)
      rintro e w4 ⟨rfl, rfl⟩
      go_wp2_with fail
      refine hK.out _ _ hHeld (fun hHeld => ?_)
      clear hK K
      refine wpAnyH_ready (rs := [4]) (by kernel_rfl) (by simp) ?_
      refine AllReadyH.cons rfl (fun K hK => ?_) AllReadyH.nil
      go_simp
      refine hK.out _ _ hHeld (fun hHeld => ?_)
      clear hK K
      refine wpAnyH_ready (rs := [8]) (by kernel_rfl) (by simp) ?_
      refine AllReadyH.cons rfl (fun K hK => ?_) AllReadyH.nil
      go_simp
      (with_reducible refine KD.out.mono ?_)
      rintro e w5 ⟨rfl, hd1, hd2, hd3⟩
      have HF := Lib.hid (HFIN.out w5 hd1 hd2 hd3)
      obtain ⟨y1, y2, y3⟩ := HS5.out w5 hd3
      clear hd1 hd2 hd3
      go_wp2_with fail
      refine hK.out _ _ y3 (fun hHeld => ?_)
      clear hK K
      refine wpAnyH_take (i := 9) (v := ?vu9) rfl (by kernel_rfl) (by kernel_rfl) (by kernel_rfl) (fun _ _ _ h => by cases h.1) (Or.inl ⟨by kernel_rfl, ?yu9⟩) (by assumption) ?ru9
      case yu9 => (intro w hSw; (try dsimp only at hSw); go_simp; (try with_reducible rfl))
      try simp only [Act.put, List.getElem_toArray, List.getElem_cons_zero, List.getElem_cons_succ, List.setIfInBounds_toArray, List.set_cons_zero, List.set_cons_succ]
      refine wpAnyH_take (i := 10) (v := ?vu10) rfl (by kernel_rfl) (by kernel_rfl) (by kernel_rfl) (fun _ _ _ h => by cases h.1) (Or.inl ⟨by kernel_rfl, ?yu10⟩) (by assumption) ?ru10
      case yu10 => (intro w hSw; (try dsimp only at hSw); go_simp; (try with_reducible rfl))
      try simp only [Act.put, List.getElem_toArray, List.getElem_cons_zero, List.getElem_cons_succ, List.setIfInBounds_toArray, List.set_cons_zero, List.set_cons_succ]
      refine wpAnyH_ready (rs := [11]) (by kernel_rfl) (by simp) ?_
      refine AllReadyH.cons rfl (fun K hK => ?_) AllReadyH.nil
      go_simp
      refine hK.out _ _ HF.out.1 (fun hHeld => ?_)
      clear hK K
      refine wpAnyH_done (by kernel_rfl) ?_ _
      refine ⟨rfl, ?_⟩
      have hKD := HF.out.2.1
      have HFF := Lib.hid HF.out.2.2
      clear HF hHeld y1 y2 y3
      go_wp2
      refine ⟨by simp, .inl ⟨_, _, rfl, run_takeDeferred hKD, ?_⟩⟩
      exact ⟨_, results_tmp rfl _ _ _, rfl, HFF.out⟩
end Go.Proofs.Ytncbbjodianmoaa
