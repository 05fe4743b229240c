/- What the program's reader makes of a function. Conditions: the reader and its tokens lie in memory. -/
import Derived.Test.YtoicncfpoklanaaDoorPv
namespace Go.Proofs.YtoicncfpoklanaaDoor
open Go.RowKit
set_option maxRecDepth 100000
set_option linter.unusedSimpArgs false

theorem funcP_eq (z : Nat) (ts : List Tok) (t : Tok) (ht : peekT z ts = t) : funcP z ts = (wantT z [102, 110] ts).bind fun _ r => (nameP z r).bind fun s r1 => (listP z (paramP z) r1).bind fun l r2 =>
  (if seesT z [[58]] r2 then typeP z r2.tail else .ok 0 r2).bind fun n r3 => (blockP z 32 r3).bind fun b r4 => .ok ⟨s, l, n, b, t.place⟩ r4 := by
  subst ht
  rfl
def QFu (lo : Nat) (w : World) (f : Fu) (v : Value) : Prop := FuV w (Rng lo w.heap.size) f v
/-- the function's own variable, the reader's, and the result's -/
structure Fs (R : Nat) (S : Src) (w : World) (br b2 bf : Nat) (cs : List Value) (ts : List Tok) (cur : World) : Prop where
  mv : Moves R w cur
  v : cur.cell? ⟨br, 0, none⟩ = some (.pointer (some ⟨R, 0, none⟩))
  th : cur.there b2 0 5
  va : VarAt cur bf cs
  at' : At cur R S ts
  hR : R < w.heap.size
  wr : w.heap.size ≤ br
  w2 : w.heap.size ≤ b2
  wf : w.heap.size ≤ bf
  rf : br ≠ bf
  f2 : b2 ≠ bf
  rl : br < cur.heap.size
  l2 : b2 < cur.heap.size
  fl : bf < cur.heap.size
theorem Fs.moves {R : Nat} {S : Src} {w : World} {br b2 bf : Nat} {cs : List Value} {ts ts' : List Tok} {cur cur' : World} (h : Fs R S w br b2 bf cs ts cur) (hm : Moves R cur cur') (ha : At cur' R S ts') : Fs R S w br b2 bf cs ts' cur' := by
  have h1 := h.hR
  have h2 := h.wr
  have h3 := h.w2
  have h4 := h.wf
  exact ⟨h.mv.trans hm, (hm.cell (a := ⟨br, 0, none⟩) h.rl (by show br ≠ R; omega)).trans h.v, there_of_block h.th (hm.block' h.l2 (by omega)), h.va.of (hm.block' h.fl (by omega)), ha, h1, h2, h3, h4, h.rf, h.f2, Nat.lt_of_lt_of_le h.rl hm.size, Nat.lt_of_lt_of_le h.l2 hm.size, Nat.lt_of_lt_of_le h.fl hm.size⟩
theorem Fs.set {R : Nat} {S : Src} {w : World} {br b2 bf : Nat} {cs : List Value} {ts : List Tok} {cur : World} (h : Fs R S w br b2 bf cs ts cur) (i : Nat) (u : Value) : Fs R S w br b2 bf (cs.set i u) ts (cur.setCell ⟨bf, i, none⟩ u) := by
  have h1 := h.hR
  have h4 := h.wf
  refine ⟨h.mv.low (set_below (b := bf)) h.wf, ?_, there_of_block h.th (set_other _ h.f2), h.va.set i u, h.at'.other (g := bf) (by omega) (fun k hk => set_other k hk), h1, h.wr, h.w2, h4, h.rf, h.f2, by rw [set_size]; exact h.rl, by rw [set_size]; exact h.l2, by rw [set_size]; exact h.fl⟩
  rw [World.cell?_of_block (a := ⟨br, 0, none⟩) (set_other _ h.rf)]
  exact h.v
/-- what lies behind the variable's block -/
theorem set_same {lo B bf i : Nat} {w : World} {u : Value} (h : bf < lo) : Same (Rng lo B) w (w.setCell ⟨bf, i, none⟩ u) := fun q hq => set_other q (by have := hq.1; omega)
theorem rng_moves {R lo B : Nat} {w w' : World} (hm : Moves R w w') (hB : B ≤ w.heap.size) (hR : R < lo) : Same (Rng lo B) w w' := hm.same fun q hq => ⟨by have := hq.2; omega, by have := hq.1; omega⟩

set_option maxHeartbeats 6400000 in
theorem function (R : Nat) (S : Src) (hsm : S.all.length ≤ 4096) (ts : List Tok) (w : World) (ha : At w R S ts) :
    Calls Tryd.prog 21 #[.pointer (some ⟨R, 0, none⟩)] w (Got R S (QFu w.heap.size) w (funcP S.z ts)) := by
  have hmf : ∀ (fn : Fn) (first cap : Array Value) (w : World), (Instr.makeFunc fn first cap).run Tryd.prog w = .ok (.func fn first cap) w := fun _ _ _ _ => rfl
  have hR := ha.lt
  have HBk := Lib.hid (blocks_ok R S hsm 32 (Nat.le_refl _))
  obtain ⟨t, ht⟩ : ∃ t, peekT S.z ts = t := ⟨_, rfl⟩
  have HW := Lib.hid (funcP_eq S.z ts t ht)
  obtain ⟨a0, b0, n0, n1, s0⟩ := open_two ha (.cells #[.pointer (some ⟨R, 0, none⟩)] 57) (.cells #[.string ⟨#[]⟩, .slice none 0 0, .int .i64 0, .slice none 0 0, .int .i64 0] 47)
  have K := Lib.hid (peek R S ts _ a0)
  rw [ht] at K
  simp only [tokV, tokC] at K
  have hf := fun w' => (run_field77 w' t).1
  have c0 : ((w.alloc (.cells #[.pointer (some ⟨R, 0, none⟩)] 57)).alloc (.cells #[.string ⟨#[]⟩, .slice none 0 0, .int .i64 0, .slice none 0 0, .int .i64 0] 47)).cell? ⟨w.heap.size, 0, none⟩ = some (.pointer (some ⟨R, 0, none⟩)) := by rw [cell_of_row _ _ _ _ _ _ n0]; rfl
  have HO : Hid (At ((w.alloc (.cells #[.pointer (some ⟨R, 0, none⟩)] 57)).alloc (.cells #[.string ⟨#[]⟩, .slice none 0 0, .int .i64 0, .slice none 0 0, .int .i64 0] 47)) R S ts ∧ Below w.heap.size w ((w.alloc (.cells #[.pointer (some ⟨R, 0, none⟩)] 57)).alloc (.cells #[.string ⟨#[]⟩, .slice none 0 0, .int .i64 0, .slice none 0 0, .int .i64 0] 47)) ∧ ((w.alloc (.cells #[.pointer (some ⟨R, 0, none⟩)] 57)).alloc (.cells #[.string ⟨#[]⟩, .slice none 0 0, .int .i64 0, .slice none 0 0, .int .i64 0] 47)).heap[w.heap.size]? = some (.cells #[.pointer (some ⟨R, 0, none⟩)] 57) ∧ ((w.alloc (.cells #[.pointer (some ⟨R, 0, none⟩)] 57)).alloc (.cells #[.string ⟨#[]⟩, .slice none 0 0, .int .i64 0, .slice none 0 0, .int .i64 0] 47)).heap[w.heap.size + 1]? = some (.cells #[.string ⟨#[]⟩, .slice none 0 0, .int .i64 0, .slice none 0 0, .int .i64 0] 47)) := ⟨a0, b0, n0, n1⟩
  clear ha ht a0 b0 n0 n1
  generalize funcP S.z ts = m at *
  go_enter Tryd.func21, Tryd.ntmps21
  go_wp2_with fail
  generalize (w.alloc (.cells #[.pointer (some ⟨R, 0, none⟩)] 57)).alloc (.cells #[.string ⟨#[]⟩, .slice none 0 0, .int .i64 0, .slice none 0 0, .int .i64 0] 47) = w0 at *
  refine K.out.mono ?_
  clear K c0
  rintro e' w1 ⟨rfl, hb1⟩
  obtain ⟨a0, b0, n0, n1⟩ := HO.out
  have s1 := hb1.size
  have bt := below_alloc w1 (.cells #[.string ⟨#[]⟩, .slice none 0 0, .int .i64 0, .slice none 0 0, .int .i64 t.place] 47)
  have s2 : (w1.alloc (.cells #[.string ⟨#[]⟩, .slice none 0 0, .int .i64 0, .slice none 0 0, .int .i64 t.place] 47)).heap.size = w1.heap.size + 1 := by simp
  have bb := hb1.trans (bt.mono s1)
  have F2 : Hid (Fs R S w w.heap.size (w.heap.size + 1) w1.heap.size [.string ⟨#[]⟩, .slice none 0 0, .int .i64 0, .slice none 0 0, .int .i64 t.place] ts (w1.alloc (.cells #[.string ⟨#[]⟩, .slice none 0 0, .int .i64 0, .slice none 0 0, .int .i64 t.place] 47))) := by
    refine ⟨(Moves.of_below (R := R) b0 (Nat.le_refl _)).below bb (Nat.le_refl _), ?_, there_cells (cs := [_, _, _, _, _]) ((bb.block _ (by omega)).trans n1) rfl, VarAt.block (cs := [_, _, _, _, _]) (heap_alloc_new w1 _), a0.below bb (Nat.le_refl _), hR, Nat.le_refl _, by omega, by omega, by omega, by omega, by omega, by omega, by omega⟩
    rw [cell_of_row _ _ _ _ _ _ ((bb.block _ (by omega)).trans n0)]
    rfl
  have M12 := Lib.hid (Moves.of_below (R := R) bt (Nat.le_refl _))
  have W1 : Hid (Moves R w w1) := (Moves.of_below (R := R) b0 (Nat.le_refl _)).below hb1 (Nat.le_refl _)
  have K := Lib.hid (want R S ts [102, 110] ⟨#[102, 110]⟩ _ F2.out.at' (by kernel_rfl) (by unfold Byn; decide))
  have hv := F2.out.v
  clear hb1 a0 b0 n0 n1 bt bb HO
  go_wp2_with fail
  generalize w1.alloc (.cells #[.string ⟨#[]⟩, .slice none 0 0, .int .i64 0, .slice none 0 0, .int .i64 t.place] 47) = w2 at *
  refine K.out.mono ?_
  clear K hv
  rintro e' w3 ⟨hm, ⟨u, r3, xu, hr, rfl, hq, ha3⟩ | ⟨c, q, hr, rfl⟩⟩
  · rw [show xu = .tuple #[] from hq]
    have F3 := Lib.hid (F2.out.moves hm ha3)
    have M13 := Lib.hid (M12.out.trans hm)
    have HW3 : Hid (m = (nameP S.z r3).bind fun s r1 => (listP S.z (paramP S.z) r1).bind fun l r2 => (if seesT S.z [[58]] r2 then typeP S.z r2.tail else .ok 0 r2).bind fun n r3 => (blockP S.z 32 r3).bind fun b r4 => .ok ⟨s, l, n, b, t.place⟩ r4) := by show _ = _; rw [HW.out, hr]; rfl
    have K := Lib.hid (name R S r3 w3 ha3)
    have hv := F3.out.v
    clear hm hr hq ha3 HW
    go_wp2_with fail
    refine K.out.mono ?_
    clear K hv
    rintro e' w4 ⟨hm, ⟨s, r4, xs, hr, rfl, hq, ha4⟩ | ⟨c, q, hr, rfl⟩⟩
    · rw [show xs = .string (strN s) from hq]
      have F4 := F3.out.moves hm ha4
      have s4 := hm.size
      obtain ⟨cc0, cf0⟩ := F4.va.cell 0 _ rfl
      have F5 := F4.set 0 (.string (strN s))
      have HF5 := Lib.hid F5
      have M15 := (M13.out.trans hm).low (set_below (b := w1.heap.size) (i := 0) (u := .string (strN s))) (Nat.le_refl _)
      have HW5 : Hid (m = (listP S.z (paramP S.z) r4).bind fun l r2 => (if seesT S.z [[58]] r2 then typeP S.z r2.tail else .ok 0 r2).bind fun n r3 => (blockP S.z 32 r3).bind fun b r4 => .ok ⟨s, l, n, b, t.place⟩ r4) := by show _ = _; rw [HW3.out, hr]; rfl
      have s5 : (w4.setCell ⟨w1.heap.size, 0, none⟩ (.string (strN s))).heap.size = w4.heap.size := set_size
      have fl4 := F4.fl
      have rl4 := F4.rl
      have hcok : (⟨R, S, w1, w1.heap.size, w.heap.size, w4.heap.size, s, t.place⟩ : Fp).Ok := ⟨by show R < w1.heap.size; omega, Nat.le_refl _, by show w.heap.size ≠ R; omega, fl4, rl4, by show w1.heap.size ≠ w.heap.size; omega, hsm⟩
      have hI0 : (⟨R, S, w1, w1.heap.size, w.heap.size, w4.heap.size, s, t.place⟩ : Fp).I [] (w4.setCell ⟨w1.heap.size, 0, none⟩ (.string (strN s))) := ⟨.slice none 0 0, by show w4.heap.size ≤ _; omega, M15, F5.v, F5.va, World.ownsRow_nil _ _ _ _⟩
      have hpart : PartOk R S 40 #[.pointer (some ⟨w.heap.size, 0, none⟩), .pointer (some ⟨w1.heap.size, 0, none⟩)] (paramP S.z) (⟨R, S, w1, w1.heap.size, w.heap.size, w4.heap.size, s, t.place⟩ : Fp).I (Moves R w1) :=
        ⟨ent40, takes_param S.z, fun l a b h hm => by obtain ⟨U, hU⟩ := h; exact ⟨U, hU.moves hcok hm⟩, fun l a h => by obtain ⟨U, hU⟩ := h; exact hU.mv, fun l a q h1 h2 h3 => param1 _ hcok l q a h1 h2 h3⟩
      have K := Lib.hid (list R S 40 _ (paramP S.z) _ _ hpart r4 _ F5.at' hI0)
      have hv := F5.v
      clear hm hr hq ha4 F4 F5 M15 hI0 hpart HW3
      go_wp2_with fail
      generalize w4.setCell ⟨w1.heap.size, 0, none⟩ (.string (strN s)) = w5 at *
      refine K.out.mono ?_
      clear K hv cc0 cf0
      rintro e' w6 (⟨l, r6, hr, rfl, hI, ha6⟩ | ⟨c, q, hr, rfl, hj⟩)
      · obtain ⟨U, hlo6', hmv6', hv6, hva6, hown6⟩ := hI
        obtain ⟨A, cp, rfl⟩ := own_shape hown6
        have hmv6 : Moves R w1 w6 := hmv6'
        have hlo6 : w4.heap.size ≤ w6.heap.size := hlo6'
        have hva6' : VarAt w6 w1.heap.size [.string (strN s), .slice A l.length cp, .int .i64 0, .slice none 0 0, .int .i64 t.place] := hva6
        have F6 : Hid (Fs R S w w.heap.size (w.heap.size + 1) w1.heap.size [.string (strN s), .slice A l.length cp, .int .i64 0, .slice none 0 0, .int .i64 t.place] r6 w6) :=
          ⟨W1.out.trans hmv6, hv6, there_of_block F2.out.th ((hmv6.block' (by omega) (by omega)).trans (M12.out.block' (by omega) (by omega)).symm), hva6', ha6, hR, Nat.le_refl _, by omega, by omega, by omega, by omega, by omega, by omega, by omega⟩
        have P6 : Hid (RowF w6 (Rng w4.heap.size w6.heap.size) l.length (pasC l) (.slice A l.length cp)) := RowF.own hown6
        have HW6 : Hid (m = (if seesT S.z [[58]] r6 then typeP S.z r6.tail else .ok 0 r6).bind fun n r3 => (blockP S.z 32 r3).bind fun b r4 => .ok ⟨s, l, n, b, t.place⟩ r4) := by show _ = _; rw [HW5.out, hr]; rfl
        have K := Lib.hid (accept R S r6 [58] ⟨#[58]⟩ w6 ha6 (by kernel_rfl) (by unfold Byn; decide))
        have hv := F6.out.v
        clear hr hlo6' hmv6' hv6 hva6 hva6' hown6 ha6 hmv6 HW5
        cases hs : seesT S.z [[58]] r6 with
        | false =>
          rw [hs] at K HW6
          have HW7 : Hid (m = (blockP S.z 32 r6).bind fun b r4 => .ok ⟨s, l, 0, b, t.place⟩ r4) := by show _ = _; rw [HW6.out]; rfl
          clear hs HW6
          go_wp2_with fail
          refine K.out.mono ?_
          clear K hv
          rintro e' w7 ⟨rfl, hm, ha7⟩
          have ha7' : At w7 R S r6 := ha7
          have F7 := Lib.hid (F6.out.moves hm ha7')
          have s7 := hm.size
          have P7 := Lib.hid ((P6.out.same (rng_moves hm (Nat.le_refl _) (by omega))).more (D' := Rng w4.heap.size w7.heap.size) fun q h => ⟨h.1, Nat.lt_of_lt_of_le h.2 hm.size⟩)
          clear hm ha7 ha7'
          have K := Lib.hid (HBk.out w7 r6 F7.out.at')
          rw [show ((33 - 32 : Nat) : Int) = 1 from rfl] at K
          have hv := F7.out.v
          go_wp2_with fail
          refine K.out.mono ?_
          clear K hv
          rintro e' wb ⟨hm, ⟨bl, rb, Bv, hr, rfl, hq, hab⟩ | ⟨c, q, hr, rfl⟩⟩
          · obtain ⟨A9, c9, rfl⟩ := stsC_slice hq
            have F9 := F7.out.moves hm hab
            have s9 := hm.size
            have P9 := P7.out.same (rng_moves hm (Nat.le_refl _) (by omega))
            obtain ⟨cc3, cf3⟩ := F9.va.cell 3 _ rfl
            have F10 := F9.set 3 (.slice A9 bl.length c9)
            obtain ⟨q0, _⟩ := F10.va.cell 0 _ rfl
            obtain ⟨q1, _⟩ := F10.va.cell 1 _ rfl
            obtain ⟨q2, _⟩ := F10.va.cell 2 _ rfl
            obtain ⟨q3, _⟩ := F10.va.cell 3 _ rfl
            obtain ⟨q4, _⟩ := F10.va.cell 4 _ rfl
            have hwf := F7.out.fl
            have P10 := Lib.hid (P9.same (set_same (i := 3) (u := .slice A9 bl.length c9) (bf := w1.heap.size) fl4))
            have B10 := Lib.hid (StsC.same hq (set_same (i := 3) (u := .slice A9 bl.length c9) (bf := w1.heap.size) hwf))
            have HF10 := Lib.hid F10
            have HW10 : Hid (m = .ok ⟨s, l, 0, bl, t.place⟩ rb) := by show _ = _; rw [HW7.out, hr]; rfl
            clear hm hr hq hab F9 F10 P9
            go_wp2_with (refine wpList_storeN info47s rfl (.tmp 2) (.tmp 24) rfl rfl (w.heap.size + 1) rfl [_, _, _, _, _] rfl rfl HF10.out.th (by simp [Value.oneCell']) ?_; intro w12 g1 g2 g3 g4 g5)
            refine bodyPost_ret (ret_cell (cs := [_, _, _, _, _]) Tryd.results21 Tryd.underlying47 rfl info47s _ _ (w.heap.size + 1) rfl g1) rfl ?_
            refine .ok (HF10.out.mv.low g3 (by omega)) HW10.out ⟨⟨.slice A l.length cp, .slice A9 bl.length c9⟩, rfl, ?_, ?_⟩ (HF10.out.at'.other (by omega) g4)
            · exact (P10.out.same fun q h => g4 q (by have := h.1; omega)).more fun q h => ⟨by have := h.1; omega, by rw [g5, set_size]; have := h.2; omega⟩
            · exact (B10.out.same fun q h => g4 q (by have := h.1; omega)).more fun q h => ⟨by have := h.1; omega, by rw [g5, set_size]; exact h.2⟩
          · have HQ := Lib.hid (F7.out.mv.trans hm)
            have HR := Lib.hid hr
            clear hm hr
            go_wp2
            exact ⟨rfl, .bad HQ.out (by rw [HW7.out, HR.out]; rfl)⟩
        | true =>
          rw [hs] at K HW6
          have HW7 : Hid (m = (typeP S.z r6.tail).bind fun n r3 => (blockP S.z 32 r3).bind fun b r4 => .ok ⟨s, l, n, b, t.place⟩ r4) := by show _ = _; rw [HW6.out]; rfl
          clear hs HW6
          go_wp2_with fail
          refine K.out.mono ?_
          clear K hv
          rintro e' w7 ⟨rfl, hm, ha7⟩
          have ha7' : At w7 R S r6.tail := ha7
          have F7 := Lib.hid (F6.out.moves hm ha7')
          have s7 := hm.size
          have P7 := Lib.hid ((P6.out.same (rng_moves hm (Nat.le_refl _) (by omega))).more (D' := Rng w4.heap.size w7.heap.size) fun q h => ⟨h.1, Nat.lt_of_lt_of_le h.2 hm.size⟩)
          clear hm ha7 ha7'
          have K := Lib.hid (valueType R S r6.tail w7 F7.out.at')
          have hv := F7.out.v
          go_wp2_with fail
          refine K.out.mono ?_
          clear K hv
          rintro e' w8 ⟨hm, ⟨n, r8, xn, hr, rfl, hq, ha8⟩ | ⟨c, q, hr, rfl⟩⟩
          · rw [show xn = .int .i64 n from hq]
            have F8 := F7.out.moves hm ha8
            have s8 := hm.size
            obtain ⟨cc2, cf2⟩ := F8.va.cell 2 _ rfl
            have F8s := Lib.hid (F8.set 2 (.int .i64 n))
            have P8 := Lib.hid (((P7.out.same (rng_moves hm (Nat.le_refl _) (by omega))).same (set_same (i := 2) (u := .int .i64 n) (bf := w1.heap.size) fl4)).more (D' := Rng w4.heap.size (w8.setCell ⟨w1.heap.size, 2, none⟩ (.int .i64 n)).heap.size) fun q h => ⟨h.1, by rw [set_size]; exact Nat.lt_of_lt_of_le h.2 hm.size⟩)
            have s8s : (w8.setCell ⟨w1.heap.size, 2, none⟩ (.int .i64 n)).heap.size = w8.heap.size := set_size
            have HW8 : Hid (m = (blockP S.z 32 r8).bind fun b r4 => .ok ⟨s, l, n, b, t.place⟩ r4) := by show _ = _; rw [HW7.out, hr]; rfl
            clear hm hr hq ha8 F8 HW7
            go_upto_region 7 with fail
            clear cc2 cf2
            generalize w8.setCell ⟨w1.heap.size, 2, none⟩ (.int .i64 n) = w9 at *
            have K := Lib.hid (HBk.out w9 r8 F8s.out.at')
            rw [show ((33 - 32 : Nat) : Int) = 1 from rfl] at K
            have hv := F8s.out.v
            go_wp2_with fail
            refine K.out.mono ?_
            clear K hv
            rintro e' wb ⟨hm, ⟨bl, rb, Bv, hr, rfl, hq, hab⟩ | ⟨c, q, hr, rfl⟩⟩
            · obtain ⟨A9, c9, rfl⟩ := stsC_slice hq
              have F9 := F8s.out.moves hm hab
              have s9 := hm.size
              have P9 := P8.out.same (rng_moves hm (Nat.le_refl _) (by omega))
              obtain ⟨cc3, cf3⟩ := F9.va.cell 3 _ rfl
              have F10 := F9.set 3 (.slice A9 bl.length c9)
              obtain ⟨q0, _⟩ := F10.va.cell 0 _ rfl
              obtain ⟨q1, _⟩ := F10.va.cell 1 _ rfl
              obtain ⟨q2, _⟩ := F10.va.cell 2 _ rfl
              obtain ⟨q3, _⟩ := F10.va.cell 3 _ rfl
              obtain ⟨q4, _⟩ := F10.va.cell 4 _ rfl
              have hwf := F8s.out.fl
              have P10 := Lib.hid (P9.same (set_same (i := 3) (u := .slice A9 bl.length c9) (bf := w1.heap.size) fl4))
              have B10 := Lib.hid (StsC.same hq (set_same (i := 3) (u := .slice A9 bl.length c9) (bf := w1.heap.size) hwf))
              have HF10 := Lib.hid F10
              have HW10 : Hid (m = .ok ⟨s, l, n, bl, t.place⟩ rb) := by show _ = _; rw [HW8.out, hr]; rfl
              clear hm hr hq hab F9 F10 P9
              go_wp2_with (refine wpList_storeN info47s rfl (.tmp 2) (.tmp 24) rfl rfl (w.heap.size + 1) rfl [_, _, _, _, _] rfl rfl HF10.out.th (by simp [Value.oneCell']) ?_; intro w12 g1 g2 g3 g4 g5)
              refine bodyPost_ret (ret_cell (cs := [_, _, _, _, _]) Tryd.results21 Tryd.underlying47 rfl info47s _ _ (w.heap.size + 1) rfl g1) rfl ?_
              refine .ok (HF10.out.mv.low g3 (by omega)) HW10.out ⟨⟨.slice A l.length cp, .slice A9 bl.length c9⟩, rfl, ?_, ?_⟩ (HF10.out.at'.other (by omega) g4)
              · exact (P10.out.same fun q h => g4 q (by have := h.1; omega)).more fun q h => ⟨by have := h.1; omega, by rw [g5, set_size]; have := h.2; omega⟩
              · exact (B10.out.same fun q h => g4 q (by have := h.1; omega)).more fun q h => ⟨by have := h.1; omega, by rw [g5, set_size]; exact h.2⟩
            · have HQ := Lib.hid (F8s.out.mv.trans hm)
              have HR := Lib.hid hr
              clear hm hr
              go_wp2
              exact ⟨rfl, .bad HQ.out (by rw [HW8.out, HR.out]; rfl)⟩
          · have HQ := Lib.hid (F7.out.mv.trans hm)
            have HR := Lib.hid hr
            clear hm hr
            go_wp2
            exact ⟨rfl, .bad HQ.out (by rw [HW7.out, HR.out]; rfl)⟩
      · have HQ := Lib.hid (W1.out.trans hj)
        have HR := Lib.hid hr
        clear hj hr
        go_wp2
        exact ⟨rfl, .bad HQ.out (by rw [HW5.out, HR.out]; rfl)⟩
    · have HQ := Lib.hid (F3.out.mv.trans hm)
      have HR := Lib.hid hr
      clear hm hr
      go_wp2
      exact ⟨rfl, .bad HQ.out (by rw [HW3.out, HR.out]; rfl)⟩
  · have HQ := Lib.hid (F2.out.mv.trans hm)
    have HR := Lib.hid hr
    clear hm hr
    go_wp2
    exact ⟨rfl, .bad HQ.out (by rw [HW.out, HR.out]; rfl)⟩
end Go.Proofs.YtoicncfpoklanaaDoor
