/- What the program's reader makes of one or two expressions, in parentheses or not. Conditions: the reader and its tokens lie in memory; the reader of expressions reads as said. -/
import Derived.Test.YtoicncfpoklanaaDoorPd
namespace Go.Proofs.YtoicncfpoklanaaDoor
open Go.RowKit
set_option maxRecDepth 100000
set_option linter.unusedSimpArgs false

/-- the reader of expressions of the depth d reads as e does -/
def ExprOk (R : Nat) (S : Src) (d : Nat) (e : Par Ex) : Prop := ∀ w ts, At w R S ts → Calls Tryd.prog 71 #[.pointer (some ⟨R, 0, none⟩), .int .i64 d] w (Got R S (QE w.heap.size) w (e ts))
def OneOk (R : Nat) (S : Src) (d : Nat) (e : Par Ex) : Prop := ∀ w ts, At w R S ts → Calls Tryd.prog 87 #[.pointer (some ⟨R, 0, none⟩), .int .i64 d] w (Got R S (QE w.heap.size) w (e ts))
/-- expressions in a row of the call's own -/
def OwnE (lo : Nat) (w : World) (l : List Ex) (V : Value) : Prop :=
  ∃ ks : List Value, ks.length = l.length ∧ w.ownsRow lo 39 5 V l.length (exsC l ks) ∧ ∀ (i : Nat) (e : Ex) (k : Value), l[i]? = some e → ks[i]? = some k → ExsC w (fun b => (lo ≤ b ∧ some b ≠ V.ownBlock) ∧ b < w.heap.size) e.kids k
theorem OwnE.exs {lo : Nat} {w : World} {l : List Ex} {V : Value} (h : OwnE lo w l V) : ExsC w (Rng lo w.heap.size) l V := by
  obtain ⟨ks, h1, h2, h3⟩ := h
  exact .mk l ks V h1 (RowF.own h2) fun i e k he hk => (h3 i e k he hk).more fun q hq => ⟨hq.1.1, hq.2⟩
theorem OwnE.moves {R lo : Nat} {w w' : World} {l : List Ex} {V : Value} (h : OwnE lo w l V) (hm : Moves R w w') (hR : R < lo) : OwnE lo w' l V := by
  obtain ⟨ks, h1, h2, h3⟩ := h
  refine ⟨ks, h1, h2.kept hm ?_, fun i e k he hk => ((h3 i e k he hk).same (hm.same fun q hq => ⟨hq.2, by omega⟩)).more fun q hq => ⟨hq.1, Nat.lt_of_lt_of_le hq.2 hm.size⟩⟩
  cases hv : V.ownBlock with
  | none => exact .inl rfl
  | some k =>
    refine .inr fun e => ?_
    injection e with e
    have := (h2.lt k hv).1
    omega
theorem OwnE.low {lo lo' : Nat} {w : World} {l : List Ex} {V : Value} (h : OwnE lo w l V) (hl : lo' ≤ lo) : OwnE lo' w l V := by
  obtain ⟨ks, h1, h2, h3⟩ := h
  exact ⟨ks, h1, own_mono h2 hl, fun i e k he hk => (h3 i e k he hk).more fun q hq => ⟨⟨by omega, hq.1.2⟩, hq.2⟩⟩
theorem OwnE.nothing (lo : Nat) (w : World) : OwnE lo w [] (.slice none 0 0) := ⟨[], rfl, World.ownsRow_nil _ _ _ _, fun i e k h => by simp at h⟩
/-- one expression, in a block just made -/
theorem OwnE.one {w : World} {lo : Nat} {x : Ex} {k : Value} (hk : ExsC w (Rng lo w.heap.size) x.kids k) (hlo : lo ≤ w.heap.size) : OwnE lo (w.alloc (exO x k)) [x] (.slice (some ⟨w.heap.size, 0, none⟩) 1 1) := by
  have bt := below_alloc w (exO x k)
  refine ⟨[k], rfl, ⟨by simp [exsC, exC], .inr ⟨w.heap.size, 1, _, rfl, hlo, heap_alloc_new w (exO x k), Nat.le_refl _, by unfold maxLen; omega, rfl, rfl⟩⟩, fun i e q he hq => ?_⟩
  rcases i with _ | i
  · simp at he hq
    subst he hq
    refine (hk.same (fun q h => bt.block q h.2)).more fun q h => ⟨⟨h.1, ?_⟩, ?_⟩
    · intro e
      have : q = w.heap.size := by simpa [Value.ownBlock] using e
      have := h.2
      omega
    · have := h.2
      have := bt.size
      omega
  · simp at he
/-- one expression more, behind an append -/
theorem OwnE.snoc {w w' : World} {lo : Nat} {l : List Ex} {V V' : Value} {x : Ex} {k : Value} {ks : List Value} (hk : ks.length = l.length) (h3 : ∀ (i : Nat) (e : Ex) (k : Value), l[i]? = some e → ks[i]? = some k → ExsC w (fun b => (lo ≤ b ∧ some b ≠ V.ownBlock) ∧ b < w.heap.size) e.kids k)
    (ho : w'.ownsRow lo 39 5 V' (l.length + 1) (exsC l ks ++ exC x k)) (hg : w.grownBy w' V.ownBlock) (hV : V'.ownBlock = V.ownBlock ∨ ∃ g, V'.ownBlock = some g ∧ w.heap.size ≤ g) (hx : ExsC w (fun b => (lo ≤ b ∧ some b ≠ V.ownBlock) ∧ b < w.heap.size) x.kids k) : OwnE lo w' (l ++ [x]) V' := by
  have hsame : ∀ {l' : List Ex} {q : Value}, ExsC w (fun b => (lo ≤ b ∧ some b ≠ V.ownBlock) ∧ b < w.heap.size) l' q → ExsC w' (fun b => (lo ≤ b ∧ some b ≠ V'.ownBlock) ∧ b < w'.heap.size) l' q := fun h =>
    (h.same (fun b hb => hg.block b hb.2 hb.1.2)).more fun b hb => ⟨⟨hb.1.1, by
      rcases hV with e | ⟨g, e, hge⟩
      · rw [e]; exact hb.1.2
      · rw [e]; intro h2; injection h2; omega⟩, Nat.lt_of_lt_of_le hb.2 hg.size⟩
  refine ⟨ks ++ [k], by simp [hk], by rw [exsC_snoc l ks hk]; simpa using ho, fun i e q he hq => ?_⟩
  rcases snoc_get he with he | ⟨e1, rfl⟩ <;> rcases snoc_get hq with hq | ⟨e2, rfl⟩
  · exact hsame (h3 i e q he hq)
  · have := (List.getElem?_eq_some_iff.1 he).1
    omega
  · have := (List.getElem?_eq_some_iff.1 hq).1
    omega
  · exact hsame hx

def singleP (e : Par Ex) : Par (List Ex) := fun ts => (e ts).bind fun x r => .ok [x] r
set_option maxHeartbeats 800000 in
theorem single (R : Nat) (S : Src) (d : Nat) (e : Par Ex) (he : ExprOk R S d e) (ts : List Tok) (w : World) (ha : At w R S ts) :
    Calls Tryd.prog 69 #[.pointer (some ⟨R, 0, none⟩), .int .i64 d] w (Got R S (OwnE w.heap.size) w (singleP e ts)) := by
  have K := Lib.hid (he w ts ha)
  have HW : Hid (singleP e ts = (e ts).bind fun x r => .ok [x] r) := rfl
  clear ha
  generalize singleP e ts = m at *
  go_enter Tryd.func69, Tryd.ntmps69
  go_wp2_with fail
  refine K.out.mono ?_
  clear K
  rintro e' w1 ⟨hm, ⟨x, r, xv, hr, rfl, hq, ha1⟩ | ⟨c, q, hr, rfl⟩⟩
  · obtain ⟨k, rfl, hk, hk1⟩ := exV_cells hq
    obtain ⟨A, c, rfl⟩ := exsC_slice hk
    have HQ : Hid (m = .ok [x] r ∧ Moves R w (w1.alloc (exO x (.slice A x.kids.length c))) ∧ At (w1.alloc (exO x (.slice A x.kids.length c))) R S r ∧ OwnE w.heap.size (w1.alloc (exO x (.slice A x.kids.length c))) [x] (.slice (some ⟨w1.heap.size, 0, none⟩) 1 1)) :=
      ⟨by rw [HW.out, hr]; rfl, hm.below (below_alloc w1 _) (Nat.le_refl _), ha1.below (below_alloc w1 _) (Nat.le_refl _), OwnE.one hk hm.size⟩
    clear hm hr hq ha1 hk hk1
    go_wp2
    go_ret
    exact .ok HQ.out.2.1 HQ.out.1 HQ.out.2.2.2 HQ.out.2.2.1
  · have HQ := Lib.hid hm
    clear hm
    go_wp2
    exact ⟨rfl, .bad HQ.out (by rw [HW.out, hr]; rfl)⟩
set_option maxHeartbeats 800000 in
theorem enclosed (R : Nat) (S : Src) (d : Nat) (e : Par Ex) (he : ExprOk R S d e) (ts : List Tok) (w : World) (ha : At w R S ts) :
    Calls Tryd.prog 73 #[.pointer (some ⟨R, 0, none⟩), .int .i64 d] w (Got R S (OwnE w.heap.size) w (enclosedP S.z e ts)) := by
  have hR := ha.lt
  have K := Lib.hid (want R S ts [40] ⟨#[40]⟩ w ha (by kernel_rfl) (by unfold Byn; decide))
  have HE := Lib.hid he
  have HW : Hid (enclosedP S.z e ts = (wantT S.z [40] ts).bind fun _ r => (singleP e r).bind fun l r' => (wantT S.z [41] r').bind fun _ r'' => .ok l r'') := by
    show _ = _
    unfold enclosedP singleP
    cases wantT S.z [40] ts with
    | bad c p => rfl
    | ok v r =>
      simp only [Res.bind_ok]
      cases e r <;> rfl
  clear ha he
  generalize enclosedP S.z e ts = m at *
  go_enter Tryd.func73, Tryd.ntmps73
  go_wp2_with fail
  refine K.out.mono ?_
  clear K
  rintro e' w1 ⟨hm, ⟨u, r, xv, hr, rfl, hq, ha1⟩ | ⟨c, q, hr, rfl⟩⟩
  · rw [show xv = .tuple #[] from hq]
    have K := Lib.hid (single R S d e HE.out r w1 ha1)
    have M1 := Lib.hid hm
    have HW1 : Hid (m = (singleP e r).bind fun l r' => (wantT S.z [41] r').bind fun _ r'' => .ok l r'') := by show _ = _; rw [HW.out, hr]; rfl
    clear hm ha1 hr hq
    go_wp2_with fail
    refine K.out.mono ?_
    clear K
    rintro e' w2 ⟨hm, ⟨l, r2, xv, hr, rfl, hq, ha2⟩ | ⟨c, q, hr, rfl⟩⟩
    · have K := Lib.hid (want R S r2 [41] ⟨#[41]⟩ w2 ha2 (by kernel_rfl) (by unfold Byn; decide))
      have M2 := Lib.hid (M1.out.trans hm)
      have HW2 : Hid (m = (wantT S.z [41] r2).bind fun _ r'' => .ok l r'') := by show _ = _; rw [HW1.out, hr]; rfl
      have O2 := Lib.hid (hq.low M1.out.size)
      clear hm ha2 hr hq
      go_wp2_with fail
      refine K.out.mono ?_
      clear K
      rintro e' w3 ⟨hm, ⟨u, r3, xu, hr, rfl, hq, ha3⟩ | ⟨c, q, hr, rfl⟩⟩
      · rw [show xu = .tuple #[] from hq]
        have HQ : Hid (m = .ok l r3 ∧ Moves R w w3 ∧ At w3 R S r3 ∧ OwnE w.heap.size w3 l xv) := ⟨by rw [HW2.out, hr]; rfl, M2.out.trans hm, ha3, O2.out.moves hm hR⟩
        clear hm hr hq ha3
        go_wp2
        go_ret
        exact .ok HQ.out.2.1 HQ.out.1 HQ.out.2.2.2 HQ.out.2.2.1
      · have HQ := Lib.hid (M2.out.trans hm)
        clear hm
        go_wp2
        exact ⟨rfl, .bad HQ.out (by rw [HW2.out, hr]; rfl)⟩
    · have HQ := Lib.hid (M1.out.trans hm)
      clear hm
      go_wp2
      exact ⟨rfl, .bad HQ.out (by rw [HW1.out, hr]; rfl)⟩
  · have HQ := Lib.hid hm
    clear hm
    go_wp2
    exact ⟨rfl, .bad HQ.out (by rw [HW.out, hr]; rfl)⟩
end Go.Proofs.YtoicncfpoklanaaDoor
