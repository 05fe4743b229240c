/- What the program's reader makes of a type, and of an assignment. Conditions: the reader and its tokens lie in memory; the reader of expressions reads as said. -/
import Derived.Test.YtoicncfpoklanaaDoorPn
namespace Go.Proofs.YtoicncfpoklanaaDoor
open Go.RowKit
set_option maxRecDepth 100000
set_option linter.unusedSimpArgs false

/-- a variable of some cells -/
def VarAt (w : World) (b : Nat) (cs : List Value) : Prop := w.rangeAt b 0 cs ∧ w.there b 0 cs.length
theorem VarAt.of {w w' : World} {b : Nat} {cs : List Value} (h : VarAt w b cs) (hb : w'.heap[b]? = w.heap[b]?) : VarAt w' b cs :=
  ⟨fun j v hv => by rw [World.cell?_of_block (a := ⟨b, 0 + j, none⟩) hb]; exact h.1 j v hv, there_of_block h.2 hb⟩
theorem VarAt.block {w : World} {b : Nat} {cs : List Value} {T : TypeId} (h : w.heap[b]? = some (.cells cs.toArray T (0, 0))) : VarAt w b cs := ⟨range_of h, there_cells h rfl⟩
theorem VarAt.cell {w : World} {b : Nat} {cs : List Value} (h : VarAt w b cs) (j : Nat) (v : Value) (hv : cs[j]? = some v) : w.cell? ⟨b, j, none⟩ = some v ∧ w.frozen? ⟨b, j, none⟩ = false := by
  have h1 := h.1 j v hv
  have h2 := (h.2 j (List.getElem?_eq_some_iff.1 hv).1).2
  rw [Nat.zero_add] at h1 h2
  exact ⟨h1, h2⟩
theorem VarAt.set {w : World} {b : Nat} {cs : List Value} (h : VarAt w b cs) (i : Nat) (u : Value) : VarAt (w.setCell ⟨b, i, none⟩ u) b (cs.set i u) := by
  constructor
  · intro j v hv
    rw [List.getElem?_set] at hv
    split at hv
    · rename_i hij
      subst hij
      split at hv
      · rename_i hlt
        injection hv with hv
        subst hv
        rw [Nat.zero_add]
        obtain ⟨q, hq⟩ := Option.isSome_iff_exists.1 (h.2 i hlt).1
        rw [Nat.zero_add] at hq
        exact World.cell?_setCell_same _ _ _ (by rw [hq])
      · cases hv
    · rename_i hij
      rw [World.cell?_setCell_other _ _ _ _ (by intro e; injection e with e1 e2; omega)]
      exact h.1 j v hv
  · intro j hj
    have hj' : j < cs.length := by simpa using hj
    have h1 := h.2 j hj'
    constructor
    · by_cases hij : i = j
      · subst hij
        rw [Nat.zero_add] at h1 ⊢
        obtain ⟨q, hq⟩ := Option.isSome_iff_exists.1 h1.1
        rw [World.cell?_setCell_same _ _ _ (by rw [hq])]
        rfl
      · rw [World.cell?_setCell_other _ _ _ _ (by intro e; injection e with e1 e2; omega)]
        exact h1.1
    · rw [World.frozen?_setCell]
      exact h1.2
theorem set_other {w : World} {b i : Nat} {u : Value} : ∀ k, k ≠ b → (w.setCell ⟨b, i, none⟩ u).heap[k]? = w.heap[k]? := fun _ hk => Below.heap_setCell _ _ _ _ hk
theorem set_size {w : World} {b i : Nat} {u : Value} : (w.setCell ⟨b, i, none⟩ u).heap.size = w.heap.size := by simp [World.setCell]
theorem set_below {w : World} {b i : Nat} {u : Value} : Below b w (w.setCell ⟨b, i, none⟩ u) := (Below.refl b w).setCell (p := ⟨b, i, none⟩) (Nat.le_refl _) u
theorem VarAt.lt {w : World} {b : Nat} {cs : List Value} (h : VarAt w b cs) (hn : 0 < cs.length) : b < w.heap.size := there_lt h.2 hn

set_option maxHeartbeats 800000 in
theorem valueType (R : Nat) (S : Src) (ts : List Tok) (w : World) (ha : At w R S ts) :
    Calls Tryd.prog 41 #[.pointer (some ⟨R, 0, none⟩)] w (Got R S QN w (typeP S.z ts)) := by
  have K := Lib.hid (accept R S ts [105, 110, 116] ⟨#[105, 110, 116]⟩ w ha (by kernel_rfl) (by unfold Byn; decide))
  have HW : Hid (typeP S.z ts = if seesT S.z [[105, 110, 116]] ts then .ok 1 ts.tail else if seesT S.z [[98, 111, 111, 108]] ts then .ok 2 ts.tail else (wantT S.z [98, 121, 116, 101, 115] ts).bind fun _ r => .ok 3 r) := rfl
  clear ha
  generalize typeP S.z ts = m at *
  go_enter Tryd.func41, Tryd.ntmps41
  cases hs : seesT S.z [[105, 110, 116]] ts with
  | true =>
    rw [hs] at K HW
    have HW2 : Hid (m = .ok 1 ts.tail) := by show _ = _; rw [HW.out]; rfl
    clear hs HW
    go_wp2_with fail
    refine K.out.mono ?_
    clear K
    rintro e' w1 ⟨rfl, hm, ha1⟩
    have H1 : Hid (Moves R w w1 ∧ At w1 R S ts.tail) := ⟨hm, ha1⟩
    clear hm ha1
    go_wp2
    go_ret
    exact .ok H1.out.1 HW2.out rfl H1.out.2
  | false =>
    rw [hs] at K HW
    clear hs
    go_wp2_with fail
    refine K.out.mono ?_
    clear K
    rintro e' w1 ⟨rfl, hm, ha1⟩
    have ha1' : At w1 R S ts := ha1
    have M1 := Lib.hid hm
    have K := Lib.hid (accept R S ts [98, 111, 111, 108] ⟨#[98, 111, 111, 108]⟩ w1 ha1' (by kernel_rfl) (by unfold Byn; decide))
    clear hm ha1 ha1'
    cases hs : seesT S.z [[98, 111, 111, 108]] ts with
    | true =>
      rw [hs] at K HW
      have HW2 : Hid (m = .ok 2 ts.tail) := by show _ = _; rw [HW.out]; rfl
      clear hs HW
      go_wp2_with fail
      refine K.out.mono ?_
      clear K
      rintro e' w2 ⟨rfl, hm, ha2⟩
      have H1 : Hid (Moves R w w2 ∧ At w2 R S ts.tail) := ⟨M1.out.trans hm, ha2⟩
      clear hm ha2
      go_wp2
      go_ret
      exact .ok H1.out.1 HW2.out rfl H1.out.2
    | false =>
      rw [hs] at K HW
      have HW2 : Hid (m = (wantT S.z [98, 121, 116, 101, 115] ts).bind fun _ r => .ok 3 r) := by show _ = _; rw [HW.out]; rfl
      clear hs HW
      go_wp2_with fail
      refine K.out.mono ?_
      clear K
      rintro e' w2 ⟨rfl, hm, ha2⟩
      have ha2' : At w2 R S ts := ha2
      have M2 := Lib.hid (M1.out.trans hm)
      have K := Lib.hid (want R S ts [98, 121, 116, 101, 115] ⟨#[98, 121, 116, 101, 115]⟩ w2 ha2' (by kernel_rfl) (by unfold Byn; decide))
      clear hm ha2 ha2'
      go_wp2_with fail
      refine K.out.mono ?_
      clear K
      rintro e' w3 ⟨hm, ⟨u, r, xv, hr, rfl, hq, ha3⟩ | ⟨c, q, hr, rfl⟩⟩
      · rw [show xv = .tuple #[] from hq]
        have H1 : Hid (Moves R w w3 ∧ At w3 R S r ∧ m = .ok 3 r) := ⟨M2.out.trans hm, ha3, by rw [HW2.out, hr]; rfl⟩
        clear hm hr hq ha3
        go_wp2
        go_ret
        exact .ok H1.out.1 H1.out.2.2 rfl H1.out.2.1
      · have H1 : Hid (Moves R w w3 ∧ m = .bad c q) := ⟨M2.out.trans hm, by rw [HW2.out, hr]; rfl⟩
        clear hm hr
        go_wp2
        exact ⟨rfl, .bad H1.out.1 H1.out.2⟩

/-- what lies from lo on stays -/
theorem OwnE.stay {lo : Nat} {w w' : World} {l : List Ex} {V : Value} (h : OwnE lo w l V) (hk : ∀ k, lo ≤ k → w'.heap[k]? = w.heap[k]?) (hs : w.heap.size ≤ w'.heap.size) : OwnE lo w' l V := by
  obtain ⟨ks, h1, h2, h3⟩ := h
  refine ⟨ks, h1, ⟨h2.1, ?_⟩, fun i e k he hkk => ((h3 i e k he hkk).same fun q hq => hk q hq.1.1).more fun q hq => ⟨hq.1, Nat.lt_of_lt_of_le hq.2 hs⟩⟩
  rcases h2.2 with h' | ⟨g, cap, cur, rfl, hb, hg, rest⟩
  · exact .inl h'
  · exact .inr ⟨g, cap, cur, rfl, hb, by rw [hk g hb]; exact hg, rest⟩
/-- an assignment, with its row of expressions -/
def QA (op lo : Nat) (w : World) (p : List Nat × Ex) (v : Value) : Prop := ∃ V, v = .agg #[.int .i64 op, .string (strN p.1), V, .slice none 0 0, .slice none 0 0, .int .i64 0] ∧ OwnE lo w [p.2] V
set_option maxHeartbeats 1600000 in
theorem assignment (R : Nat) (S : Src) (op d : Nat) (e : Par Ex) (he : ExprOk R S d e) (ts : List Tok) (w : World) (ha : At w R S ts) :
    Calls Tryd.prog 70 #[.pointer (some ⟨R, 0, none⟩), .int .i64 op, .int .i64 d] w (Got R S (QA op w.heap.size) w (setP S.z e ts)) := by
  have hR := ha.lt
  have HE := Lib.hid he
  have H0 := Lib.hid (Res0.start ha [.int .i64 0, .string ⟨#[]⟩, .slice none 0 0, .slice none 0 0, .slice none 0 0, .int .i64 0] 43)
  have K := Lib.hid (name R S ts _ H0.out.at')
  have HW : Hid (setP S.z e ts = (nameP S.z ts).bind fun s r => (wantT S.z [61] r).bind fun _ r' => (singleP e r').bind fun l q => .ok (s, l.headD (.mk 0 0 [] [] 0)) q) := by
    show _ = _
    unfold setP singleP
    cases nameP S.z ts with
    | bad c p => rfl
    | ok s r =>
      simp only [Res.bind_ok]
      cases wantT S.z [61] r with
      | bad c p => rfl
      | ok u r' =>
        simp only [Res.bind_ok]
        cases e r' <;> rfl
  clear ha he
  generalize setP S.z e ts = m at *
  go_enter Tryd.func70, Tryd.ntmps70
  go_wp2_with fail
  generalize w.alloc (.cells #[.int .i64 0, .string ⟨#[]⟩, .slice none 0 0, .slice none 0 0, .slice none 0 0, .int .i64 0] 43) = w0 at *
  refine K.out.mono ?_
  clear K
  rintro e' w1 ⟨hm, ⟨s, r, xv, hr, rfl, hq, ha1⟩ | ⟨c, q, hr, rfl⟩⟩
  · rw [show xv = .string (strN s) from hq]
    have H1 := H0.out.moves hm ha1 hR
    have bt := below_alloc w1 (.cells #[.int .i64 op, .string (strN s), .slice none 0 0, .slice none 0 0, .slice none 0 0, .int .i64 0] 43)
    have H2 := Lib.hid (H1.below bt (Nat.le_refl _))
    have V2 := Lib.hid (VarAt.block (cs := [.int .i64 op, .string (strN s), .slice none 0 0, .slice none 0 0, .slice none 0 0, .int .i64 0]) (heap_alloc_new w1 (.cells #[.int .i64 op, .string (strN s), .slice none 0 0, .slice none 0 0, .slice none 0 0, .int .i64 0] 43)))
    have s1 := H1.lt
    have hR1 := H1.at'.lt
    have s2 : (w1.alloc (.cells #[.int .i64 op, .string (strN s), .slice none 0 0, .slice none 0 0, .slice none 0 0, .int .i64 0] 43)).heap.size = w1.heap.size + 1 := by simp
    have HW2 : Hid (m = (wantT S.z [61] r).bind fun _ r' => (singleP e r').bind fun l q => .ok (s, l.headD (.mk 0 0 [] [] 0)) q) := by show _ = _; rw [HW.out, hr]; rfl
    have K := Lib.hid (want R S r [61] ⟨#[61]⟩ _ H2.out.at' (by kernel_rfl) (by unfold Byn; decide))
    clear hm hr hq ha1 H1 bt HW
    go_wp2_with fail
    generalize w1.alloc (.cells #[.int .i64 op, .string (strN s), .slice none 0 0, .slice none 0 0, .slice none 0 0, .int .i64 0] 43) = w2 at *
    refine K.out.mono ?_
    clear K
    rintro e' w3 ⟨hm, ⟨u, r3, xu, hr, rfl, hq, ha3⟩ | ⟨c, q, hr, rfl⟩⟩
    · rw [show xu = .tuple #[] from hq]
      have H3 := Lib.hid (H2.out.moves hm ha3 hR)
      have V3 := Lib.hid (V2.out.of (hm.block' (k := w1.heap.size) (by omega) (by omega)))
      have s3 := hm.size
      have HW3 : Hid (m = (singleP e r3).bind fun l q => .ok (s, l.headD (.mk 0 0 [] [] 0)) q) := by show _ = _; rw [HW2.out, hr]; rfl
      have K := Lib.hid (single R S d e HE.out r3 w3 ha3)
      clear hm hr hq ha3 HW2
      go_wp2_with fail
      refine K.out.mono ?_
      clear K
      rintro e' w4 ⟨hm, ⟨l, r4, V, hr, rfl, hq, ha4⟩ | ⟨c, q, hr, rfl⟩⟩
      · have hl1 : ∃ x, l = [x] := by
          obtain ⟨a, s', h1, h2⟩ := bind_inv (show (e r3).bind (fun x r => Res.ok [x] r) = .ok l r4 from hr)
          cases h2
          exact ⟨a, rfl⟩
        obtain ⟨x, rfl⟩ := hl1
        obtain ⟨A, cp, hV0⟩ := exsC_slice hq.exs
        have hV : V = .slice A 1 cp := hV0
        clear hV0
        subst hV
        have H4 := Lib.hid (H3.out.moves hm ha4 hR)
        have V4 := V3.out.of (hm.block' (k := w1.heap.size) (by omega) (by omega))
        have s4 := hm.size
        obtain ⟨v2c, v2f⟩ := V4.cell 2 _ rfl
        have V5 := V4.set 2 (.slice A 1 cp)
        obtain ⟨q0, _⟩ := V5.cell 0 _ rfl
        obtain ⟨q1, _⟩ := V5.cell 1 _ rfl
        obtain ⟨q2, _⟩ := V5.cell 2 _ rfl
        obtain ⟨q3, _⟩ := V5.cell 3 _ rfl
        obtain ⟨q4, _⟩ := V5.cell 4 _ rfl
        obtain ⟨q5, _⟩ := V5.cell 5 _ rfl
        have th5 := Lib.hid (there_of_block H4.out.th (set_other (w := w4) (b := w1.heap.size) (i := 2) (u := .slice A 1 cp) w.heap.size (by omega)))
        have O4 := Lib.hid hq
        have HR : Hid (m = .ok (s, x) r4) := by show _ = _; rw [HW3.out, hr]; rfl
        clear hm hr hq ha4 V4 V5 HW3
        go_wp2_with (refine wpList_storeN info43s rfl (.tmp 6) (.tmp 18) rfl rfl w.heap.size rfl [_, _, _, _, _, _] rfl rfl th5.out (by simp [Value.oneCell']) ?_; intro w7 g1 g2 g3 g4 g5)
        refine bodyPost_ret (ret_cell (cs := [_, _, _, _, _, _]) Tryd.results70 Tryd.underlying43 rfl info43s _ _ w.heap.size rfl g1) rfl ?_
        have hoth : ∀ k, k ≠ w.heap.size → k ≠ w1.heap.size → w7.heap[k]? = w4.heap[k]? := fun k h1 h2 => (g4 k h1).trans (set_other k h2)
        refine .ok ((H4.out.mv.low (set_below (b := w1.heap.size)) (by omega)).low g3 (Nat.le_refl _)) HR.out ⟨.slice A 1 cp, rfl, ?_⟩ ((H4.out.at'.other (g := w1.heap.size) (by omega) (fun k hk => set_other k hk)).other hR g4)
        exact (O4.out.stay (fun k hk => hoth k (by omega) (by omega)) (by rw [g5, set_size]; exact Nat.le_refl _)).low (by omega)
      · have HQ := Lib.hid (H3.out.mv.trans hm)
        have HR := Lib.hid hr
        clear hm hr
        go_wp2
        exact ⟨rfl, .bad HQ.out (by rw [HW3.out, HR.out]; rfl)⟩
    · have HQ := Lib.hid (H2.out.mv.trans hm)
      have HR := Lib.hid hr
      clear hm hr
      go_wp2
      exact ⟨rfl, .bad HQ.out (by rw [HW2.out, HR.out]; rfl)⟩
  · have HQ := Lib.hid (H0.out.mv.trans hm)
    have HR := Lib.hid hr
    clear hm hr
    go_wp2
    exact ⟨rfl, .bad HQ.out (by rw [HW.out, HR.out]; rfl)⟩
end Go.Proofs.YtoicncfpoklanaaDoor
