/- The document's reading: a number, a count, a code, a module. Conditions: those in each theorem. -/
import Derived.Test.YtecjkmemihmkcaaDoorYf
import Derived.Test.YtecjkmemihmkcaaDoorZi
import Derived.Test.YtecjkmemihmkcaaDoorZk
import Derived.Test.YtecjkmemihmkcaaDoorLa
import Derived.Test.YtecjkmemihmkcaaDoorZm
namespace Go.Proofs.YtecjkmemihmkcaaDoor
set_option maxRecDepth 100000
open Go.RowKit
set_option linter.unusedSimpArgs false
set_option linter.unusedVariables false

theorem At.set21 {w : World} {R T : Nat} {S : Sc} {p e : Int} (h : At w R T S p e) (p' e' : Int) : At ((w.setCell ⟨R, 2, none⟩ (.int .i64 e')).setCell ⟨R, 1, none⟩ (.int .i64 p')) R T S p' e' ∧ Moves R w ((w.setCell ⟨R, 2, none⟩ (.int .i64 e')).setCell ⟨R, 1, none⟩ (.int .i64 p')) := by
  obtain ⟨a1, m1⟩ := h.set2 e'
  obtain ⟨a2, m2⟩ := a1.set1 p'
  exact ⟨a2, m1.trans m2⟩

set_option maxHeartbeats 1600000 in
theorem rnum (R : Nat) (S : Sc) (σ : Rd Unit) (w : World) (h : PlS w R 66 S σ) :
    Calls Tryd.prog 64 #[.pointer (some ⟨R, 0, none⟩)] w (Got R 66 S w (σ.bind fun _ p => numR S.l p) (fun _ n v => v = .int .i64 n) (fun _ v => ∃ n, v = .int .i64 n)) := by
  obtain ⟨p, e, ha, hs⟩ := h
  obtain ⟨c0, c1, c2, c3⟩ := ha.cell
  have HA := Lib.hid ha
  have hlt := ha.lt
  rcases hs with ⟨rfl, rfl, p0, pl⟩ | ⟨rfl, he⟩
  · rw [Rd.bind_ok]
    have had : At w.drew R 66 S p 0 := ha.low ((Below.refl (R + 1) w).drew) (Nat.lt_succ_self R)
    have hmx : p ≤ 9223372036854775807 := by have := S.hc; have := S.hcm; unfold maxLen at this; omega
    have K0 : Hid (Calls Tryd.prog 78 #[.slice S.A S.l.length S.c, .int .i64 p] w.drew fun e w' => e = .returned (.tuple #[.int .i64 (numA S.l p), .int .i64 (numB S.l p), .int .i64 (roomV S.l.length p 8)]) ∧ w.drew = w') := Lib.hid (refNum S.A S.l S.c p w.drew R S.hc S.hcm (by omega) hmx had.2 S.hby)
    have HD := Lib.hid had
    have HS : Hid (w.drew.cell? ⟨R, 0, none⟩ = some (.slice S.A S.l.length S.c) ∧ w.drew.cell? ⟨R, 1, none⟩ = some (.int .i64 p)) := Lib.hid ⟨had.cell.1, had.cell.2.1⟩
    clear ha had
    go_enter Tryd.func64, Tryd.ntmps64
    go_wp2_with fail
    go_region_held3 (fun x => x.cell? ⟨R, 0, none⟩ = some (.slice S.A S.l.length S.c) ∧ x.cell? ⟨R, 1, none⟩ = some (.int .i64 p))
      (with_reducible exact HS.out)
      (first
        | (go_at_call 78; refine K0.out.mono ?_; rintro e w7 ⟨rfl, rfl⟩))
    clear HS K0 c0 c1 c2 c3
    obtain ⟨d0, d1, d2, d3⟩ := HD.out.cell
    have f1 := d3 1
    have f2 := d3 2
    have d1' : (w.drew.setCell ⟨R, 2, none⟩ (.int .i64 (roomV S.l.length p 8))).cell? ⟨R, 1, none⟩ = some (.int .i64 p) := (HD.out.set2 _).1.cell.2.1
    have f1' : (w.drew.setCell ⟨R, 2, none⟩ (.int .i64 (roomV S.l.length p 8))).frozen? ⟨R, 1, none⟩ = false := (HD.out.set2 _).1.cell.2.2.2 1
    have HM : Hid (Moves R w w.drew) := Lib.hid ((Moves.refl R w).low ((Below.refl w.heap.size w).drew) (Nat.le_refl _))
    generalize w.drew = wd at *
    clear d3
    go_wp2
    go_ret
    obtain ⟨a2, m2⟩ := HD.out.set21 (numB S.l p) (roomV S.l.length p 8)
    refine ⟨_, rfl, HM.out.trans m2, ⟨_, _, a2, ?_⟩, ⟨_, rfl⟩, fun a q hq => ?_⟩
    · unfold numR
      by_cases h0 : roomV S.l.length p 8 = 0
      · rw [if_pos h0]
        have hb : numB S.l p = p + 8 := if_pos h0
        have := room_is0 h0
        exact .inl ⟨by rw [hb]; rfl, h0, by omega, by omega⟩
      · rw [if_neg h0]
        exact .inr ⟨rfl, h0⟩
    · rw [(numR_in hq).2.2.2.1]
      rfl
  · rw [Rd.bind_bad]
    have hne : (e != 0) = true := by simpa using he
    clear ha
    go_enter Tryd.func64, Tryd.ntmps64
    go_wp2
    go_ret
    exact ⟨_, rfl, Moves.refl _ _, ⟨p, e, HA.out, .inr ⟨rfl, he⟩⟩, ⟨0, rfl⟩, fun a q hq => by cases hq⟩

set_option maxHeartbeats 1600000 in
theorem rmany (R : Nat) (S : Sc) (most : Int) (σ : Rd Unit) (w : World) (h : PlS w R 66 S σ) :
    Calls Tryd.prog 34 #[.pointer (some ⟨R, 0, none⟩), .int .i64 most] w (Got R 66 S w (σ.bind fun _ p => manyR S.l most p) (fun _ n v => v = .int .i64 n) (fun _ v => ∃ n, v = .int .i64 n)) := by
  have hb : (σ.bind fun _ p => manyR S.l most p) = (σ.bind fun _ p => numR S.l p).bind fun n q => if n < 0 ∨ most < n then .bad 111 else .ok n q := by rw [Rd.bind_bind]; rfl
  rw [hb]
  have K := Lib.hid (rnum R S σ w h)
  generalize (σ.bind fun _ p => numR S.l p) = r at *
  clear hb h
  go_enter Tryd.func34, Tryd.ntmps34
  go_wp2_with fail
  refine K.out.mono ?_
  clear K
  rintro e x1 ⟨v, rfl, hm, ⟨p, e, ha, hs⟩, ⟨n1, rfl⟩, hv⟩
  have HM := Lib.hid hm
  have HA := Lib.hid ha
  obtain ⟨c0, c1, c2, c3⟩ := ha.cell
  have f2 := c3 2
  clear ha hm c3
  cases r with
  | ok n q =>
    rcases hs with ⟨hs, rfl, p0, pl⟩ | ⟨hs, _⟩
    · injection hs with _ hs
      subst hs
      have hv := hv n q rfl
      injection hv with _ hv
      subst hv
      by_cases g1 : n1 < 0
      · have hr : (if n1 < 0 ∨ most < n1 then Rd.bad 111 else Rd.ok n1 q) = Rd.bad 111 := if_pos (.inl g1)
        have HRR := Lib.hid hr
        clear hr
        obtain ⟨a2, m2⟩ := HA.out.set2 111
        have A2 := Lib.hid a2
        have M2 := Lib.hid m2
        obtain ⟨d0, d1, d2, d3⟩ := a2.cell
        clear a2 m2 d3
        go_wp2
        go_ret
        rw [Rd.bind_ok, HRR.out]
        exact ⟨_, rfl, HM.out.trans M2.out, ⟨_, _, A2.out, .inr ⟨rfl, by decide⟩⟩, ⟨0, rfl⟩, fun a q hq => by cases hq⟩
      · by_cases g2 : most < n1
        · have hr : (if n1 < 0 ∨ most < n1 then Rd.bad 111 else Rd.ok n1 q) = Rd.bad 111 := if_pos (.inr g2)
          have HRR := Lib.hid hr
          clear hr
          obtain ⟨a2, m2⟩ := HA.out.set2 111
          have A2 := Lib.hid a2
          have M2 := Lib.hid m2
          obtain ⟨d0, d1, d2, d3⟩ := a2.cell
          clear a2 m2 d3
          go_wp2
          go_ret
          rw [Rd.bind_ok, HRR.out]
          exact ⟨_, rfl, HM.out.trans M2.out, ⟨_, _, A2.out, .inr ⟨rfl, by decide⟩⟩, ⟨0, rfl⟩, fun a q hq => by cases hq⟩
        · have hr : (if n1 < 0 ∨ most < n1 then Rd.bad 111 else Rd.ok n1 q) = Rd.ok n1 q := if_neg (by omega)
          have HRR := Lib.hid hr
          clear hr
          go_wp2
          go_ret
          rw [Rd.bind_ok, HRR.out]
          exact ⟨_, rfl, HM.out, ⟨_, _, HA.out, .inl ⟨rfl, rfl, p0, pl⟩⟩, ⟨n1, rfl⟩, fun a q hq => by injection hq with hq _; subst hq; rfl⟩
    · cases hs
  | bad e' =>
    rcases hs with ⟨hs, _⟩ | ⟨hs, he⟩
    · cases hs
    · injection hs with hs
      subst hs
      have hne : (e' != 0) = true := by simpa using he
      have hne2 : (e' == 0) = false := by simpa using he
      go_wp2
      go_ret
      rw [Rd.bind_bad]
      exact ⟨_, rfl, HM.out, ⟨_, _, HA.out, .inr ⟨rfl, he⟩⟩, ⟨0, rfl⟩, fun a q hq => by cases hq⟩


/-- the two variables of the document's reader of a code -/
structure Rst (R : Nat) (S : Sc) (w : World) (cs : List Value) (σ : Rd Unit) (x : World) : Prop where
  mw : Moves R w x
  pl : PlS x R 66 S σ
  res : x.heap[w.heap.size]? = some (.cells #[.string ⟨#[]⟩, .slice none 0 0, .int .i64 0, .int .i64 0, .slice none 0 0] 46 (0, 0))
  var : x.heap[w.heap.size + 1]? = some (.cells cs.toArray 46 (0, 0))
  lt : R < w.heap.size
theorem Rst.call {R : Nat} {S : Sc} {w x y : World} {cs : List Value} {σ σ' : Rd Unit} (h : Rst R S w cs σ x) (hm : Moves R x y) (hp : PlS y R 66 S σ') : Rst R S w cs σ' y :=
  ⟨h.mw.trans hm, hp, by rw [hm.at (lt_of_some h.res) (by have := h.lt; omega)]; exact h.res, by rw [hm.at (lt_of_some h.var) (by have := h.lt; omega)]; exact h.var, h.lt⟩
theorem Rst.set {R : Nat} {S : Sc} {w x : World} {cs : List Value} {σ : Rd Unit} (h : Rst R S w cs σ x) (k : Nat) (v : Value) : Rst R S w (cs.set k v) σ (x.setCell ⟨w.heap.size + 1, k, none⟩ v) := by
  have hb : Below (w.heap.size + 1) x (x.setCell ⟨w.heap.size + 1, k, none⟩ v) := (Below.refl _ _).setCell (p := ⟨w.heap.size + 1, k, none⟩) (Nat.le_refl _) v
  have k1 := heap_setCell_same x (w.heap.size + 1) k _ 46 v h.var
  refine ⟨h.mw.low hb (Nat.le_succ _), h.pl.low hb (by have := h.lt; omega), by rw [hb.block _ (Nat.lt_succ_self _)]; exact h.res, ?_, h.lt⟩
  rw [k1]
  simp
theorem Rst.cell {R : Nat} {S : Sc} {w x : World} {cs : List Value} {σ : Rd Unit} (h : Rst R S w cs σ x) {k : Nat} {v : Value} (hv : cs[k]? = some v) : x.cell? ⟨w.heap.size + 1, k, none⟩ = some v ∧ x.frozen? ⟨w.heap.size + 1, k, none⟩ = false := by
  refine ⟨?_, frozen_of_row _ _ _ _ _ h.var⟩
  rw [cell_of_row _ _ _ _ _ _ h.var]
  simpa using hv

theorem Rst.low {R : Nat} {S : Sc} {w x y : World} {cs : List Value} {σ : Rd Unit} (h : Rst R S w cs σ x) (hb : Below (w.heap.size + 2) x y) : Rst R S w cs σ y :=
  ⟨h.mw.low hb (by omega), h.pl.low hb (by have := h.lt; omega), by rw [hb.block _ (by omega)]; exact h.res, by rw [hb.block _ (by omega)]; exact h.var, h.lt⟩
theorem Moves.set (x : World) (b k : Nat) (v : Value) : Moves b x (x.setCell ⟨b, k, none⟩ v) := ⟨rfl, rfl, rfl, by simp, fun j _ hr => Below.heap_setCell _ _ _ j (fun e => hr (by rw [e]))⟩
/-- the things so far, and all of them -/
theorem elems_state {α : Type} {f : Int → Rd α} {rM : Rd Int} {k : Nat} {e : Int} (h : (rM.bind fun _ q => elemsR f q k) = .bad e) (hk : ∀ n q, rM = .ok n q → (k : Int) ≤ n) : (rM.bind fun n q => elemsR f q n.toNat) = .bad e := by
  cases rM with
  | bad e' => exact h
  | ok n q =>
    have := hk n q rfl
    have h2 := elemsR_bad (show elemsR f q k = .bad e from h) (n.toNat - k)
    rw [show k + (n.toNat - k) = n.toNat by omega] at h2
    exact h2
theorem elems_all {α : Type} {f : Int → Rd α} {rM : Rd Int} {k : Nat} {n : Int} {q : Int} (h : rM = .ok n q) (hk : (k : Int) = n) : (rM.bind fun n q => elemsR f q n.toNat) = (rM.bind fun _ q => elemsR f q k) := by
  subst h hk
  simp

set_option maxHeartbeats 3200000 in
theorem rcode (R : Nat) (S : Sc) (σ : Rd Unit) (w : World) (h : PlS w R 66 S σ) :
    Calls Tryd.prog 35 #[.pointer (some ⟨R, 0, none⟩)] w (Got R 66 S w (σ.bind fun _ p => codeR S.l p)
      (fun w' c v => ∃ P I, v = .agg (coC c P I).toArray ∧ RowT w' 43 c.params.length (tysV c.params) P ∧ RowT w' 50 c.instrs.length (insV c.instrs) I ∧ Byt c.name)
      (fun _ v => ∃ s A n c x y A' n' c', v = .agg #[.string s, .slice A n c, .int .i64 x, .int .i64 y, .slice A' n' c'])) := by
  have hlt := h.lt
  have bb : Below w.heap.size w ((w.alloc (.cells #[.string ⟨#[]⟩, .slice none 0 0, .int .i64 0, .int .i64 0, .slice none 0 0] 46)).alloc (.cells #[.string ⟨#[]⟩, .slice none 0 0, .int .i64 0, .int .i64 0, .slice none 0 0] 46)) := ((Below.refl _ _).alloc (Nat.le_refl _) _).alloc (by simp) _
  have ST0 : Hid (Rst R S w [.string ⟨#[]⟩, .slice none 0 0, .int .i64 0, .int .i64 0, .slice none 0 0] σ ((w.alloc (.cells #[.string ⟨#[]⟩, .slice none 0 0, .int .i64 0, .int .i64 0, .slice none 0 0] 46)).alloc (.cells #[.string ⟨#[]⟩, .slice none 0 0, .int .i64 0, .int .i64 0, .slice none 0 0] 46))) := by
    refine ⟨Moves.of_below bb (Nat.le_refl _), h.low bb hlt, ?_, ?_, hlt⟩
    · rw [Below.heap_alloc _ _ _ (by simp)]
      exact heap_alloc_new w _
    · have := heap_alloc_new (w.alloc (.cells #[.string ⟨#[]⟩, .slice none 0 0, .int .i64 0, .int .i64 0, .slice none 0 0] 46)) (.cells #[.string ⟨#[]⟩, .slice none 0 0, .int .i64 0, .int .i64 0, .slice none 0 0] 46)
      rw [World.size_alloc] at this
      exact this
  clear bb h
  go_enter Tryd.func35, Tryd.ntmps35
  go_upto_region 2 with fail
  generalize ((w.alloc (.cells #[.string ⟨#[]⟩, .slice none 0 0, .int .i64 0, .int .i64 0, .slice none 0 0] 46)).alloc (.cells #[.string ⟨#[]⟩, .slice none 0 0, .int .i64 0, .int .i64 0, .slice none 0 0] 46)) = x0 at *
  obtain ⟨p, e, ha, hs⟩ := ST0.out.pl
  obtain ⟨c0, c1, c2, c3⟩ := ha.cell
  have HA := Lib.hid ha
  rcases hs with ⟨rfl, rfl, p0, pl⟩ | ⟨rfl, he⟩
  · have had : At x0.drew R 66 S p 0 := ha.low ((Below.refl (R + 1) x0).drew) (Nat.lt_succ_self R)
    have hmx : p ≤ 9223372036854775807 := by have := S.hc; have := S.hcm; unfold maxLen at this; omega
    have hx0 := ST0.out.mw.size
    have K0 := Lib.hid (refBytesB S.A S.l S.c p x0.drew S.hc S.hcm (had.2.more (by simp; omega)) S.hby)
    have HD := Lib.hid had
    have HSC : Hid (∀ x, Below x0.drew.heap.size x0.drew x → x.cell? ⟨R, 0, none⟩ = some (.slice S.A S.l.length S.c) ∧ x.cell? ⟨R, 1, none⟩ = some (.int .i64 p)) := fun x hx => ⟨(HD.out.low hx HD.out.lt).cell.1, (HD.out.low hx HD.out.lt).cell.2.1⟩
    have HZ : Hid (Below x0.drew.heap.size x0.drew x0.drew) := Below.refl _ _
    have HM0 : Hid (Rst R S w [.string ⟨#[]⟩, .slice none 0 0, .int .i64 0, .int .i64 0, .slice none 0 0] (.ok () p) x0.drew) := Lib.hid (ST0.out.call ((Moves.refl R x0).low ((Below.refl x0.heap.size x0).drew) (Nat.le_refl _)) ⟨p, 0, HD.out, .inl ⟨rfl, rfl, p0, pl⟩⟩)
    clear ha had ST0
    go_wp2_with fail
    clear c0 c1 c2 c3
    go_region_held3 (fun x => x.cell? ⟨R, 0, none⟩ = some (.slice S.A S.l.length S.c) ∧ x.cell? ⟨R, 1, none⟩ = some (.int .i64 p))
      (first | with_reducible exact HSC.out _ HZ.out | with_reducible exact HSC.out _ HB.out)
      (first
        | (go_at_call 65; refine K0.out.mono ?_; rintro e w1 ⟨v1, rfl, ho, hb⟩; obtain ⟨A1, c1, rfl, g1, g2, g3⟩ := own_lies ho; have HO := Lib.hid ho; have HB := Lib.hid hb; have HG := Lib.hid g3; clear ho hb g3))
    have A1w := Lib.hid (HD.out.low HB.out HD.out.lt)
    have S1 := Lib.hid (HM0.out.call (σ' := .ok () p) (Moves.of_below HB.out (Nat.le_refl _)) ⟨p, 0, A1w.out, .inl ⟨rfl, rfl, p0, pl⟩⟩)
    obtain ⟨d0, d1, d2, d3⟩ := A1w.out.cell
    have f1 := d3 1
    have f2 := d3 2
    have d1' := (A1w.out.set2 (bytesE S.l p)).1.cell.2.1
    have f1' := (A1w.out.set2 (bytesE S.l p)).1.cell.2.2.2 1
    clear d3 HSC HZ K0 HM0
    unfold maxLen at g2
    go_upto_region 7 with fail
    obtain ⟨a2, m2⟩ := A1w.out.set21 (byT S.l p) (bytesE S.l p)
    have hpl : PlS ((w1.setCell ⟨R, 2, none⟩ (.int .i64 (bytesE S.l p))).setCell ⟨R, 1, none⟩ (.int .i64 (byT S.l p))) R 66 S (bytesR S.l p).st := by
      refine ⟨_, _, a2, ?_⟩
      unfold bytesR byT
      by_cases h0 : bytesE S.l p = 0
      · rw [if_pos h0, if_pos h0]
        obtain ⟨j1, j2, j3, _⟩ := bytesR_in (l := S.l) (p := p) (q := bytesB S.l p) (a := bytesA S.l p) (by unfold bytesR; rw [if_pos h0])
        exact .inl ⟨rfl, h0, by omega, j3⟩
      · rw [if_neg h0]
        exact .inr ⟨rfl, h0⟩
    have S2 := Lib.hid (S1.out.call m2 hpl)
    have O2 := own_moves HO.out m2 (by rw [World.size_drew]; omega)
    clear d0 d1 d2 f1 f2 d1' f1' a2 m2 hpl A1w S1 HO HG HD
    generalize (w1.setCell ⟨R, 2, none⟩ (.int .i64 (bytesE S.l p))).setCell ⟨R, 1, none⟩ (.int .i64 (byT S.l p)) = y1 at *
    have HSB : Hid (∀ a q, bytesR S.l p = .ok a q → a = byL S.l p) := fun a q h => by
      have := bytesR_in h
      unfold byL
      rw [if_pos this.2.2.2.2.1]
      exact this.2.2.2.1
    have HSY : Hid (Byt (byL S.l p)) := by
      unfold byL
      split
      · exact fun y hy => S.hby y (List.mem_of_mem_drop (List.mem_of_mem_take hy))
      · intro y hy
        cases hy
    obtain ⟨r1, hr1⟩ : ∃ r, r = bytesR S.l p := ⟨_, rfl⟩
    have HR1 := Lib.hid hr1
    rw [← hr1] at S2 HSB
    clear hr1
    generalize byL S.l p = sB at *
    obtain ⟨A1', c1', e1, _, _, l2⟩ := own_lies O2
    injection e1 with e1 e2 e3
    subst e1 e3
    have hcv := run_string_lies (P := Tryd.prog) y1 26 9 5 Tryd.underlying26 Tryd.underlying5 Tryd.underlying9 y1.heap.size A1 sB.length c1 sB rfl l2
    obtain ⟨v0, v0f⟩ := S2.out.cell (k := 0) rfl
    clear l2 O2
    go_upto_region 8 with fail
    have S3 : Hid (Rst R S w [.string (strOfNums sB), .slice none 0 0, .int .i64 0, .int .i64 0, .slice none 0 0] r1.st (y1.setCell ⟨w.heap.size + 1, 0, none⟩ (.string (strOfNums sB)))) := Lib.hid (S2.out.set 0 (.string (strOfNums sB)))
    clear v0 v0f hcv S2
    generalize y1.setCell ⟨w.heap.size + 1, 0, none⟩ (.string (strOfNums sB)) = y2 at *
    have K := Lib.hid (rmany R S 16 r1.st y2 S3.out.pl)
    obtain ⟨rM, hrM⟩ : ∃ r, r = r1.st.bind fun _ p => manyR S.l 16 p := ⟨_, rfl⟩
    obtain ⟨r2, hr2⟩ : ∃ r, r = r1.st.bind fun _ p => rowOf S.l 16 (numR S.l) p := ⟨_, rfl⟩
    have HR2 := Lib.hid hr2
    have HRM : Hid (r2 = rM.bind fun n q => elemsR (numR S.l) q n.toNat) := Lib.hid (by rw [hr2, hrM, Rd.bind_bind]; rfl)
    have HMI : Hid (∀ n q, rM = .ok n q → 0 ≤ n ∧ n ≤ 16) := fun n q h => by
      rw [hrM] at h
      cases hst : r1.st with
      | bad e => rw [hst] at h; cases h
      | ok u pp =>
        rw [hst] at h
        have := manyR_in h
        omega
    rw [← hrM] at K
    clear hrM hr2
    go_wp2_with fail
    refine K.out.mono ?_
    clear K
    rintro e x3 ⟨v3, rfl, hm3, hp3, ⟨n3, rfl⟩, hv3⟩
    have S4 := Lib.hid (S3.out.call hm3 hp3)
    have V3 : Hid (∀ a q, rM = .ok a q → a = n3) := fun a q h => by have := hv3 a q h; injection this with _ this; exact this.symm
    clear hm3 hp3 hv3 S3
    obtain ⟨i0, hi, hz0, hz1, hz2⟩ := info_parts info43c
    go_upto_block 0 with fail
    go_cut [] (fun wx => ∃ (v : Value) (m : Nat) (xs : List Value), Hid (Rst R S w [.string (strOfNums sB), v, .int .i64 0, .int .i64 0, .slice none 0 0] r2.st wx) ∧ Hid (wx.ownsRow (w.heap.size + 2) 43 1 v m xs) ∧ Hid (∀ t q, r2 = .ok t q → m = t.length ∧ xs = tysV t))
    case first =>
      go_wp2_with fail
      go_loopw [8] (fun i wr => ∃ (k m : Nat) (v : Value) (xs : List Value), i = .int .i64 k ∧ m ≤ k ∧ k ≤ 16 ∧ Hid (wr.ownsRow (w.heap.size + 2) 43 1 v m xs) ∧ Hid (Rst R S w [.string (strOfNums sB), v, .int .i64 0, .int .i64 0, .slice none 0 0] (rM.bind fun _ q => elemsR (numR S.l) q k).st wr) ∧ Hid (∀ t q, (rM.bind fun _ q => elemsR (numR S.l) q k) = .ok t q → m = t.length ∧ xs = tysV t) ∧ Hid (∀ n q, rM = .ok n q → (k : Int) ≤ n)) (fun i _ => 16 - (intOf i).toNat)
      case atStart =>
        refine ⟨0, 0, .slice none 0 0, [], rfl, Nat.le_refl _, Nat.zero_le _, World.ownsRow_nil _ _ _ _, ?_, fun t q h => ?_, fun n q h => (HMI.out n q h).1⟩
        · have : (rM.bind fun _ q => elemsR (numR S.l) q 0).st = rM.st := by cases rM <;> rfl
          rw [this]
          exact S4.out
        · cases rM with
          | bad e => cases h
          | ok n q0 =>
            injection h with h1 h2
            subst h1
            exact ⟨rfl, rfl⟩
      case round =>
        clear S4
        obtain ⟨k, m, v, xs, rfl, hmk, hk16, HO, HS, HI, HK⟩ := hrel
        obtain ⟨pk, ek, hak, hsk⟩ := HS.out.pl
        obtain ⟨c0, c1, c2, _⟩ := hak.cell
        rcases hsk with ⟨hst, rfl, q0, ql⟩ | ⟨hst, hne⟩
        · obtain ⟨n, qM, hMo, t, ht⟩ : ∃ n qM, rM = .ok n qM ∧ ∃ t, elemsR (numR S.l) qM k = .ok t pk := by
            cases rM with
            | bad e => cases hst
            | ok n qM =>
              refine ⟨n, qM, rfl, ?_⟩
              have hst : (elemsR (numR S.l) qM k).st = .ok () pk := hst
              cases hx : elemsR (numR S.l) qM k with
              | ok a q => rw [hx] at hst; injection hst with _ e2; exact ⟨a, by rw [e2]⟩
              | bad e => rw [hx] at hst; cases hst
          obtain rfl := V3.out _ _ hMo
          have HMo := Lib.hid hMo
          have HT := Lib.hid ht
          have hn16 := (HMI.out _ _ hMo).2
          by_cases hkn : (k : Int) < n
          · have K := Lib.hid (rnum R S (.ok () pk) wr ⟨pk, 0, hak, .inl ⟨rfl, rfl, q0, ql⟩⟩)
            obtain ⟨hml, hrel⟩ := HI.out t pk (by rw [hMo]; exact ht)
            have HL := Lib.hid hrel
            have HML := Lib.hid hml
            clear hml
            have HNX : Hid ((rM.bind fun _ q => elemsR (numR S.l) q (k + 1)) = (numR S.l pk).bind fun a r => .ok (t ++ [a]) r) := Lib.hid (by rw [hMo]; show (elemsR (numR S.l) qM k).bind _ = _; rw [ht]; rfl)
            clear ht hMo hst hrel
            go_wp2_with fail
            refine K.out.mono ?_
            clear K
            rintro e w5 ⟨v5, rfl, hm5, hp5, ⟨y, rfl⟩, hv5⟩
            have S5 := Lib.hid (HS.out.call hm5 hp5)
            have O5 := Lib.hid (own_moves HO.out hm5 (by omega))
            have V5 := Lib.hid hv5
            obtain ⟨d1, d1f⟩ := S5.out.cell (k := 1) rfl
            have hs5 : w.heap.size + 2 ≤ w5.heap.size := lt_of_some S5.out.var
            have bt := (Below.refl w5.heap.size w5).alloc (Nat.le_refl _) (.cells #[.int .i64 y] 43)
            have hbs : (w5.alloc (.cells #[.int .i64 y] 43)).heap.size = w5.heap.size + 1 := World.size_alloc _ _
            have O6 := Lib.hid (own_below O5.out bt (Nat.le_refl _))
            have HBS := Lib.hid hbs
            have BT := Lib.hid (bt.mono hs5)
            have LA : Hid (Lies (w5.alloc (.cells #[.int .i64 y] 43)) (w5.alloc (.cells #[.int .i64 y] 43)).heap.size (some ⟨w5.heap.size, 0, none⟩) 1 [.int .i64 y]) := Lib.hid (row_lies (heap_alloc_new w5 _))
            have D1 : Hid ((w5.alloc (.cells #[.int .i64 y] 43)).cell? ⟨w.heap.size + 1, 1, none⟩ = some v) := (S5.out.low BT.out).cell (k := 1) rfl |>.1
            clear hm5 hp5 hv5 bt hbs c0 c1 c2 hak
            go_wp2_with (at_builtin; refine wpList_append_gro _ rfl (.tmp 62) (.tmp 64) 42 rfl (w.heap.size + 2) 43 i0 _ 1 8 Tryd.underlying42 hi hz0 hz1 hz2 rfl (by omega) _ m xs rfl O6.out _ (some ⟨w5.heap.size, 0, none⟩) 1 1 [.int .i64 y] rfl rfl LA.out (by simp [Value.oneCell']) (by unfold maxLen; omega) (by omega) (by have := HBS.out; omega) ?_; intro v7 w7 ho7 hg7; have B7 := Lib.hid (BT.out.trans (hg7.below O6.out (by have := HBS.out; omega))); have S7 := Lib.hid (S5.out.low B7.out); have O7 := Lib.hid ho7; obtain ⟨e1, e1f⟩ := S7.out.cell (k := 1) rfl; obtain ⟨A7, c7, rfl⟩ := (RowT.own ho7).is; clear ho7 hg7 d1 d1f)
            have S8 : Hid (Rst R S w [.string (strOfNums sB), .slice A7 (m + 1) c7, .int .i64 0, .int .i64 0, .slice none 0 0] _ (w7.setCell ⟨w.heap.size + 1, 1, none⟩ (.slice A7 (m + 1) c7))) := Lib.hid (S7.out.set 1 (.slice A7 (m + 1) c7))
            have O8 := Lib.hid (own_moves O7.out (Moves.set w7 (w.heap.size + 1) 1 (.slice A7 (m + 1) c7)) (by omega))
            have HST : Hid ((rM.bind fun _ q => elemsR (numR S.l) q (k + 1)).st = (((.ok () pk : Rd Unit).bind fun _ p => numR S.l p)).st) := Lib.hid (by rw [HNX.out, Rd.bind_ok]; cases numR S.l pk <;> rfl)
            have HIN : Hid (∀ u q, (rM.bind fun _ q => elemsR (numR S.l) q (k + 1)) = .ok u q → m + 1 = u.length ∧ (xs ++ [.int .i64 y]) = tysV u) := fun u q hu => by
              rw [HNX.out] at hu
              obtain ⟨a, q', ha, hu⟩ := Rd.bind_is hu
              injection hu with hu1 hu2
              subst hu1
              have hva := V5.out a q' (by rw [Rd.bind_ok]; exact ha)
              injection hva with _ hva
              subst hva
              refine ⟨by rw [List.length_append, HML.out]; rfl, ?_⟩
              rw [tysV_snoc, HL.out]
            have HKN : Hid (∀ n' q, rM = .ok n' q → ((k + 1 : Nat) : Int) ≤ n') := fun n' q h => by
              have := V3.out _ _ h
              omega
            clear e1 e1f
            go_roundw
            case rel => exact ⟨k + 1, m + 1, _, _, by go_num, by omega, by omega, Lib.hid O8.out, Lib.hid (by rw [HST.out]; exact S8.out), HIN, HKN⟩
            case measure => simp [intOf]; omega
          · have hkn2 : (k : Int) = n := by have := HK.out _ _ hMo; omega
            have HEX : Hid (r2 = (rM.bind fun _ q => elemsR (numR S.l) q k)) := Lib.hid (by rw [HRM.out]; exact elems_all hMo hkn2)
            clear ht hMo hst hkn2
            go_wp2_with fail
            go_meet
            exact ⟨v, m, xs, by rw [HEX.out]; exact HS, HO, by rw [HEX.out]; exact HI⟩
        · have HEX : Hid (r2 = .bad ek) := Lib.hid (by
            rw [HRM.out]
            refine elems_state ?_ HK.out
            cases hx : (rM.bind fun _ q => elemsR (numR S.l) q k) with
            | ok a q => rw [hx] at hst; cases hst
            | bad e => rw [hx] at hst; injection hst with hst; rw [hst])
          have HEY : Hid ((rM.bind fun _ q => elemsR (numR S.l) q k).st = r2.st) := Lib.hid (by rw [hst, HEX.out]; rfl)
          have hne2 : (ek == 0) = false := by simpa using hne
          clear hst
          by_cases hkn : (k : Int) < n3
          · go_wp2_with fail
            go_meet
            exact ⟨v, m, xs, by rw [← HEY.out]; exact HS, HO, fun t q h => by rw [HEX.out] at h; cases h⟩
          · go_wp2_with fail
            go_meet
            exact ⟨v, m, xs, by rw [← HEY.out]; exact HS, HO, fun t q h => by rw [HEX.out] at h; cases h⟩
    case rest =>
      obtain ⟨v, m, xs, HS, HO, HI⟩ := hcut
      obtain ⟨r3, hr3⟩ : ∃ r, r = r2.st.bind fun _ p => numR S.l p := ⟨_, rfl⟩
      obtain ⟨r4, hr4⟩ : ∃ r, r = r3.st.bind fun _ p => numR S.l p := ⟨_, rfl⟩
      have HR3 := Lib.hid hr3
      have HR4 := Lib.hid hr4
      have K := Lib.hid (rnum R S r2.st wc HS.out.pl)
      rw [← hr3] at K
      go_wp2_with fail
      refine K.out.mono ?_
      clear K hr3
      rintro e x4 ⟨v4, rfl, hm4, hp4, ⟨t3, rfl⟩, hv4⟩
      have S4 := Lib.hid (HS.out.call hm4 hp4)
      have O4 := Lib.hid (own_moves HO.out hm4 (by omega))
      have V4 : Hid (∀ a q, r3 = .ok a q → a = t3) := fun a q h => by have := hv4 a q h; injection this with _ this; exact this.symm
      have K := Lib.hid (rnum R S r3.st x4 hp4)
      rw [← hr4] at K
      clear hm4 hp4 hv4 HS HO hr4
      go_wp2_with fail
      refine K.out.mono ?_
      clear K
      rintro e x5 ⟨v5, rfl, hm5, hp5, ⟨t4, rfl⟩, hv5⟩
      have S5 := Lib.hid (S4.out.call hm5 hp5)
      have O5 := Lib.hid (own_moves O4.out hm5 (by omega))
      have V5 : Hid (∀ a q, r4 = .ok a q → a = t4) := fun a q h => by have := hv5 a q h; injection this with _ this; exact this.symm
      clear hm5 hp5 hv5 S4 O4
      obtain ⟨d2, d2f⟩ := S5.out.cell (k := 2) rfl
      have S6 : Hid (Rst R S w [.string (strOfNums sB), v, .int .i64 t3, .int .i64 0, .slice none 0 0] r4.st (x5.setCell ⟨w.heap.size + 1, 2, none⟩ (.int .i64 t3))) := Lib.hid (S5.out.set 2 (.int .i64 t3))
      have O6 := Lib.hid (own_moves O5.out (Moves.set x5 (w.heap.size + 1) 2 (.int .i64 t3)) (by omega))
      obtain ⟨d3, d3f⟩ := S6.out.cell (k := 3) rfl
      have S7 : Hid (Rst R S w [.string (strOfNums sB), v, .int .i64 t3, .int .i64 t4, .slice none 0 0] r4.st ((x5.setCell ⟨w.heap.size + 1, 2, none⟩ (.int .i64 t3)).setCell ⟨w.heap.size + 1, 3, none⟩ (.int .i64 t4))) := Lib.hid (S6.out.set 3 (.int .i64 t4))
      have O7 := Lib.hid (own_moves O6.out (Moves.set _ (w.heap.size + 1) 3 (.int .i64 t4)) (by omega))
      go_upto_region 18 with fail
      clear d2 d2f d3 d3f S5 S6 O5 O6
      generalize (x5.setCell ⟨w.heap.size + 1, 2, none⟩ (.int .i64 t3)).setCell ⟨w.heap.size + 1, 3, none⟩ (.int .i64 t4) = y7 at *
      have RW : Hid (∀ t q, r2 = .ok t q → RowT y7 43 t.length (tysV t) v) := fun t q h => by
        obtain ⟨e1, e2⟩ := HI.out t q h
        subst e1 e2
        exact RowT.own O7.out
      obtain ⟨Av, nv, cv, rfl⟩ : ∃ A n c, v = .slice A n c := by
        obtain ⟨A, c, h⟩ := (RowT.own O7.out).is
        exact ⟨A, m, c, h⟩
      clear O7 HI
      have K := Lib.hid (rmany R S 16384 r4.st y7 S7.out.pl)
      obtain ⟨rN, hrN⟩ : ∃ r, r = r4.st.bind fun _ p => manyR S.l 16384 p := ⟨_, rfl⟩
      obtain ⟨r5, hr5⟩ : ∃ r, r = r4.st.bind fun _ p => rowOf S.l 16384 (instrR S.l) p := ⟨_, rfl⟩
      have HR5 := Lib.hid hr5
      have HRN : Hid (r5 = rN.bind fun n q => elemsR (instrR S.l) q n.toNat) := Lib.hid (by rw [hr5, hrN, Rd.bind_bind]; rfl)
      have HNI : Hid (∀ n q, rN = .ok n q → 0 ≤ n ∧ n ≤ 16384) := fun n q h => by
        rw [hrN] at h
        cases hst : r4.st with
        | bad e => rw [hst] at h; cases h
        | ok u pp =>
          rw [hst] at h
          have := manyR_in h
          omega
      rw [← hrN] at K
      clear hrN hr5
      go_wp2_with fail
      refine K.out.mono ?_
      clear K
      rintro e x8 ⟨v8, rfl, hm8, hp8, ⟨n8, rfl⟩, hv8⟩
      have S8 := Lib.hid (S7.out.call hm8 hp8)
      have V8 : Hid (∀ a q, rN = .ok a q → a = n8) := fun a q h => by have := hv8 a q h; injection this with _ this; exact this.symm
      have RW8 : Hid (∀ t q, r2 = .ok t q → RowT x8 43 t.length (tysV t) (.slice Av nv cv)) := fun t q h => by
        obtain ⟨cc, hcc⟩ := S7.out.pl.tag
        exact (RW.out t q h).kept (KeptT.moves hm8 hcc (by decide))
      clear hm8 hp8 hv8 S7 RW hi hz0 hz1 hz2 i0
      obtain ⟨i0, hi, hz0, hz1, hz2⟩ := info_parts info50c
      go_upto_block 2 with fail
      go_cut [] (fun wx => ∃ (v : Value) (m : Nat) (xs : List Value), Hid (Rst R S w [.string (strOfNums sB), .slice Av nv cv, .int .i64 t3, .int .i64 t4, v] r5.st wx) ∧ Hid (wx.ownsRow (w.heap.size + 2) 50 2 v m xs) ∧ Hid (∀ t q, r5 = .ok t q → m = t.length ∧ xs = insV t) ∧ Hid (∀ t q, r2 = .ok t q → RowT wx 43 t.length (tysV t) (.slice Av nv cv)))
      case first =>
        go_wp2_with fail
        go_loopw [12] (fun i wr => ∃ (k m : Nat) (v : Value) (xs : List Value), i = .int .i64 k ∧ m ≤ k ∧ k ≤ 16384 ∧ Hid (wr.ownsRow (w.heap.size + 2) 50 2 v m xs) ∧ Hid (Rst R S w [.string (strOfNums sB), .slice Av nv cv, .int .i64 t3, .int .i64 t4, v] (rN.bind fun _ q => elemsR (instrR S.l) q k).st wr) ∧ Hid (∀ t q, (rN.bind fun _ q => elemsR (instrR S.l) q k) = .ok t q → m = t.length ∧ xs = insV t) ∧ Hid (∀ n q, rN = .ok n q → (k : Int) ≤ n) ∧ Hid (∀ t q, r2 = .ok t q → RowT wr 43 t.length (tysV t) (.slice Av nv cv))) (fun i _ => 16384 - (intOf i).toNat)
        case atStart =>
          refine ⟨0, 0, .slice none 0 0, [], rfl, Nat.le_refl _, Nat.zero_le _, World.ownsRow_nil _ _ _ _, ?_, fun t q h => ?_, fun n q h => (HNI.out n q h).1, RW8⟩
          · have : (rN.bind fun _ q => elemsR (instrR S.l) q 0).st = rN.st := by cases rN <;> rfl
            rw [this]
            exact S8.out
          · cases rN with
            | bad e => cases h
            | ok n q0 =>
              injection h with h1 h2
              subst h1
              exact ⟨rfl, rfl⟩
        case round =>
          clear S8 RW8
          obtain ⟨k, m, v, xs, rfl, hmk, hk16, HO, HS, HI, HK, HRW⟩ := hrel
          obtain ⟨pk, ek, hak, hsk⟩ := HS.out.pl
          obtain ⟨c0, c1, c2, _⟩ := hak.cell
          rcases hsk with ⟨hst, rfl, q0, ql⟩ | ⟨hst, hne⟩
          · obtain ⟨n, qM, hMo, t, ht⟩ : ∃ n qM, rN = .ok n qM ∧ ∃ t, elemsR (instrR S.l) qM k = .ok t pk := by
              cases rN with
              | bad e => cases hst
              | ok n qM =>
                refine ⟨n, qM, rfl, ?_⟩
                have hst : (elemsR (instrR S.l) qM k).st = .ok () pk := hst
                cases hx : elemsR (instrR S.l) qM k with
                | ok a q => rw [hx] at hst; injection hst with _ e2; exact ⟨a, by rw [e2]⟩
                | bad e => rw [hx] at hst; cases hst
            obtain rfl := V8.out _ _ hMo
            have HT := Lib.hid ht
            have hn16 := (HNI.out _ _ hMo).2
            by_cases hkn : (k : Int) < n
            · have K := Lib.hid (rnum R S (.ok () pk) wr ⟨pk, 0, hak, .inl ⟨rfl, rfl, q0, ql⟩⟩)
              obtain ⟨hml, hrel⟩ := HI.out t pk (by rw [hMo]; exact ht)
              have HL := Lib.hid hrel
              have HML := Lib.hid hml
              clear hml
              have HNX : Hid ((rN.bind fun _ q => elemsR (instrR S.l) q (k + 1)) = (instrR S.l pk).bind fun a r => .ok (t ++ [a]) r) := Lib.hid (by rw [hMo]; show (elemsR (instrR S.l) qM k).bind _ = _; rw [ht]; rfl)
              clear ht hMo hst hrel
              rw [Rd.bind_ok] at K
              obtain ⟨ra, hra⟩ : ∃ r, r = numR S.l pk := ⟨_, rfl⟩
              obtain ⟨rb, hrb⟩ : ∃ r, r = ra.st.bind fun _ p => numR S.l p := ⟨_, rfl⟩
              have HRA := Lib.hid hra
              have HRB := Lib.hid hrb
              rw [← hra] at K
              go_wp2_with fail
              refine K.out.mono ?_
              clear K
              rintro e w5 ⟨v5, rfl, hm5, hp5, ⟨y, rfl⟩, hv5⟩
              have S5 := Lib.hid (HS.out.call hm5 hp5)
              have O5 := Lib.hid (own_moves HO.out hm5 (by omega))
              have W5 : Hid (∀ t q, r2 = .ok t q → RowT w5 43 t.length (tysV t) (.slice Av nv cv)) := fun t q h => by
                obtain ⟨cc, hcc⟩ := HS.out.pl.tag
                exact (HRW.out t q h).kept (KeptT.moves hm5 hcc (by decide))
              have V5 : Hid (∀ a q, ra = .ok a q → a = y) := fun a q h => by have := hv5 a q h; injection this with _ this; exact this.symm
              have K := Lib.hid (rnum R S ra.st w5 hp5)
              rw [← hrb] at K
              clear hm5 hp5 hv5 hra hrb
              go_wp2_with fail
              refine K.out.mono ?_
              clear K
              rintro e w6 ⟨v6, rfl, hm6, hp6, ⟨z, rfl⟩, hv6⟩
              have S6 := Lib.hid (S5.out.call hm6 hp6)
              have O6 := Lib.hid (own_moves O5.out hm6 (by omega))
              have W6 : Hid (∀ t q, r2 = .ok t q → RowT w6 43 t.length (tysV t) (.slice Av nv cv)) := fun t q h => by
                obtain ⟨cc, hcc⟩ := S5.out.pl.tag
                exact (W5.out t q h).kept (KeptT.moves hm6 hcc (by decide))
              have V6 : Hid (∀ a q, rb = .ok a q → a = z) := fun a q h => by have := hv6 a q h; injection this with _ this; exact this.symm
              obtain ⟨d1, d1f⟩ := S6.out.cell (k := 4) rfl
              have hs6 : w.heap.size + 2 ≤ w6.heap.size := lt_of_some S6.out.var
              have bt := (Below.refl w6.heap.size w6).alloc (Nat.le_refl _) (.cells #[.int .i64 y, .int .i64 z] 50)
              have hbs : (w6.alloc (.cells #[.int .i64 y, .int .i64 z] 50)).heap.size = w6.heap.size + 1 := World.size_alloc _ _
              have O7 := Lib.hid (own_below O6.out bt (Nat.le_refl _))
              have HBS := Lib.hid hbs
              have BT := Lib.hid (bt.mono hs6)
              have LA : Hid (Lies (w6.alloc (.cells #[.int .i64 y, .int .i64 z] 50)) (w6.alloc (.cells #[.int .i64 y, .int .i64 z] 50)).heap.size (some ⟨w6.heap.size, 0, none⟩) 1 [.int .i64 y, .int .i64 z]) := Lib.hid (row_lies (heap_alloc_new w6 _))
              have KA : Hid (KeptT 43 w6 (w6.alloc (.cells #[.int .i64 y, .int .i64 z] 50))) := KeptT.alloc _ _ _
              clear hm6 hp6 hv6 bt hbs c0 c1 c2 hak S5 O5 W5
              go_wp2_with (at_builtin; refine wpList_append_gro _ rfl (.tmp 94) (.tmp 98) 44 rfl (w.heap.size + 2) 50 i0 _ 2 16 Tryd.underlying44 hi hz0 hz1 hz2 rfl (by omega) _ m xs rfl O7.out _ (some ⟨w6.heap.size, 0, none⟩) 1 1 [.int .i64 y, .int .i64 z] rfl rfl LA.out (by simp [Value.oneCell']) (by unfold maxLen; omega) (by omega) (by have := HBS.out; omega) ?_; intro v7 w7 ho7 hg7; have B7 := Lib.hid (BT.out.trans (hg7.below O7.out (by have := HBS.out; omega))); have S7 := Lib.hid (S6.out.low B7.out); have OZ := Lib.hid ho7; have KG : Hid (KeptT 43 w6 w7) := (KA.out.trans (KeptT.grown O7.out hg7.1 (by decide))); obtain ⟨e1, e1f⟩ := S7.out.cell (k := 4) rfl; obtain ⟨A7, c7, rfl⟩ := (RowT.own ho7).is; clear ho7 hg7 d1 d1f)
              have S8 : Hid (Rst R S w [.string (strOfNums sB), .slice Av nv cv, .int .i64 t3, .int .i64 t4, .slice A7 (m + 1) c7] _ (w7.setCell ⟨w.heap.size + 1, 4, none⟩ (.slice A7 (m + 1) c7))) := Lib.hid (S7.out.set 4 (.slice A7 (m + 1) c7))
              have O8 := Lib.hid (own_moves OZ.out (Moves.set w7 (w.heap.size + 1) 4 (.slice A7 (m + 1) c7)) (by omega))
              have W8 : Hid (∀ t q, r2 = .ok t q → RowT (w7.setCell ⟨w.heap.size + 1, 4, none⟩ (.slice A7 (m + 1) c7)) 43 t.length (tysV t) (.slice Av nv cv)) := fun t q h => ((W6.out t q h).kept KG.out).kept (KeptT.set S7.out.var (by decide))
              have HIS : Hid (instrR S.l pk = ra.bind fun o q => (numR S.l q).bind fun a r => .ok (o, a) r) := Lib.hid (by rw [HRA.out]; rfl)
              have HST : Hid ((rN.bind fun _ q => elemsR (instrR S.l) q (k + 1)).st = rb.st) := Lib.hid (by
                rw [HNX.out, HIS.out, HRB.out]
                cases ra with
                | bad e => rfl
                | ok a q =>
                  simp only [Rd.bind_ok, Rd.st_ok]
                  cases numR S.l q <;> rfl)
              have HIN : Hid (∀ u q, (rN.bind fun _ q => elemsR (instrR S.l) q (k + 1)) = .ok u q → m + 1 = u.length ∧ (xs ++ [.int .i64 y, .int .i64 z]) = insV u) := fun u q hu => by
                rw [HNX.out, HIS.out] at hu
                obtain ⟨a, q', ha, hu⟩ := Rd.bind_is hu
                obtain ⟨o1, q1, h1, ha⟩ := Rd.bind_is ha
                obtain ⟨o2, q2, h2, ha⟩ := Rd.bind_is ha
                injection hu with hu1 hu2
                injection ha with ha1 ha2
                subst hu1 ha1
                obtain rfl := V5.out _ _ h1
                obtain rfl := V6.out o2 q2 (by rw [HRB.out, h1]; exact h2)
                refine ⟨by rw [List.length_append, HML.out]; rfl, ?_⟩
                rw [insV_snoc, HL.out]
              have HKN : Hid (∀ n' q, rN = .ok n' q → ((k + 1 : Nat) : Int) ≤ n') := fun n' q h => by
                have := V8.out _ _ h
                omega
              clear e1 e1f
              go_roundw
              case rel => exact ⟨k + 1, m + 1, _, _, by go_num, by omega, by omega, Lib.hid O8.out, Lib.hid (by rw [HST.out]; exact S8.out), HIN, HKN, W8⟩
              case measure => simp [intOf]; omega
            · have hkn2 : (k : Int) = n := by have := HK.out _ _ hMo; omega
              have HEX : Hid (r5 = (rN.bind fun _ q => elemsR (instrR S.l) q k)) := Lib.hid (by rw [HRN.out]; exact elems_all hMo hkn2)
              clear ht hMo hst hkn2
              go_wp2_with fail
              go_meet
              exact ⟨v, m, xs, by rw [HEX.out]; exact HS, HO, by rw [HEX.out]; exact HI, HRW⟩
          · have HEX : Hid (r5 = .bad ek) := Lib.hid (by
              rw [HRN.out]
              refine elems_state ?_ HK.out
              cases hx : (rN.bind fun _ q => elemsR (instrR S.l) q k) with
              | ok a q => rw [hx] at hst; cases hst
              | bad e => rw [hx] at hst; injection hst with hst; rw [hst])
            have HEY : Hid ((rN.bind fun _ q => elemsR (instrR S.l) q k).st = r5.st) := Lib.hid (by rw [hst, HEX.out]; rfl)
            have hne2 : (ek == 0) = false := by simpa using hne
            clear hst
            by_cases hkn : (k : Int) < n8
            · go_wp2_with fail
              go_meet
              exact ⟨v, m, xs, by rw [← HEY.out]; exact HS, HO, fun t q h => (by rw [HEX.out] at h; cases h), HRW⟩
            · go_wp2_with fail
              go_meet
              exact ⟨v, m, xs, by rw [← HEY.out]; exact HS, HO, fun t q h => (by rw [HEX.out] at h; cases h), HRW⟩
      case rest =>
        obtain ⟨v, m, xs, HS, HO, HI, HRW⟩ := hcut
        have HP5 : Hid (∀ t q, r5 = .ok t q → RowT wc 50 t.length (insV t) v) := fun t q h => by
          obtain ⟨e1, e2⟩ := HI.out t q h
          subst e1 e2
          exact RowT.own HO.out
        obtain ⟨A5, m5, c5, rfl⟩ : ∃ A n c, v = .slice A n c := by
          obtain ⟨A, c, h⟩ := (RowT.own HO.out).is
          exact ⟨A, m, c, h⟩
        clear HO HI
        have HRG := Lib.hid (range_of (cs := [.string (strOfNums sB), .slice Av nv cv, .int .i64 t3, .int .i64 t4, .slice A5 m5 c5]) HS.out.var)
        have HTH : Hid (wc.there w.heap.size 0 5) := Lib.hid (there_cells (cs := [.string ⟨#[]⟩, .slice none 0 0, .int .i64 0, .int .i64 0, .slice none 0 0]) HS.out.res rfl)
        go_wp2_with (first | (refine wpList_load_mid rfl 46 (.tmp 3) rfl (w.heap.size + 1) 0 rfl [.string (strOfNums sB), .slice Av nv cv, .int .i64 t3, .int .i64 t4, .slice A5 m5 c5] _ HRG.out Tryd.underlying46 rfl info46s ?_; refine Hid.out ?_) | fail)
        refine Lib.hid ?_
        go_wp2_with (refine wpList_storeN info46s rfl (.tmp 2) (.tmp 101) rfl rfl w.heap.size rfl [.string (strOfNums sB), .slice Av nv cv, .int .i64 t3, .int .i64 t4, .slice A5 m5 c5] rfl rfl HTH.out (by simp [Value.oneCell']) ?_; intro w6 g1 g2 g3 g4 g5)
        refine bodyPost_ret (ret_cell (cs := [.string (strOfNums sB), .slice Av nv cv, .int .i64 t3, .int .i64 t4, .slice A5 m5 c5]) Tryd.results35 Tryd.underlying46 rfl info46s _ _ w.heap.size rfl g1) rfl ?_
        have hcp := code_parts (.ok () p) S.l r1 r2 r3 r4 r5 HR1.out HR2.out HR3.out HR4.out HR5.out
        have KD : ∀ T, T ≠ 46 → KeptT T wc w6 := fun T hT b cs' fr hb => by
          rw [g4 b (by rintro rfl; rw [HS.out.res] at hb; injection hb with e; injection e with _ e _; exact hT e.symm)]
          exact hb
        refine ⟨_, rfl, HS.out.mw.low g3 (Nat.le_refl _), by rw [hcp.1]; exact HS.out.pl.low g3 hlt, ⟨_, _, _, _, _, _, _, _, _, rfl⟩, fun c q hq => ?_⟩
        obtain ⟨⟨q1, e1⟩, ⟨q2, e2⟩, ⟨q3, e3⟩, ⟨q4, e4⟩, ⟨q5, e5⟩⟩ := hcp.2 c q hq
        have f3 := V4.out _ _ e3
        have f4 := V5.out _ _ e4
        have f1 := HSB.out _ _ e1
        refine ⟨.slice Av nv cv, .slice A5 m5 c5, ?_, (HRW.out _ _ e2).kept (KD 43 (by decide)), (HP5.out _ _ e5).kept (KD 50 (by decide)), by rw [f1]; exact HSY.out⟩
        rw [← f1, ← f3, ← f4]
        rfl
  · have hne : (e != 0) = true := by simpa using he
    have HRG := Lib.hid (range_of (cs := [.string ⟨#[]⟩, .slice none 0 0, .int .i64 0, .int .i64 0, .slice none 0 0]) ST0.out.var)
    have HTH : Hid (x0.there w.heap.size 0 5) := Lib.hid (there_cells (cs := [.string ⟨#[]⟩, .slice none 0 0, .int .i64 0, .int .i64 0, .slice none 0 0]) ST0.out.res rfl)
    clear ha c0 c1 c3
    go_wp2_with (first | (refine wpList_load_mid rfl 46 (.tmp 3) rfl (w.heap.size + 1) 0 rfl [.string ⟨#[]⟩, .slice none 0 0, .int .i64 0, .int .i64 0, .slice none 0 0] _ HRG.out Tryd.underlying46 rfl info46s ?_; refine Hid.out ?_) | fail)
    refine Lib.hid ?_
    go_wp2_with (refine wpList_storeN info46s rfl (.tmp 2) (.tmp 20) rfl rfl w.heap.size rfl [.string ⟨#[]⟩, .slice none 0 0, .int .i64 0, .int .i64 0, .slice none 0 0] rfl rfl HTH.out (by simp [Value.oneCell']) ?_; intro w6 g1 g2 g3 g4 g5)
    refine bodyPost_ret (ret_cell (cs := [.string ⟨#[]⟩, .slice none 0 0, .int .i64 0, .int .i64 0, .slice none 0 0]) Tryd.results35 Tryd.underlying46 rfl info46s _ _ w.heap.size rfl g1) rfl ?_
    exact ⟨_, rfl, ST0.out.mw.low g3 (Nat.le_refl _), ST0.out.pl.low g3 hlt, ⟨_, _, _, _, _, _, _, _, _, rfl⟩, fun c q hq => (by cases hq)⟩


/-- the document's Get's three variables -/
structure Hst (S : Sc) (w : World) (cs : List Value) (σ : Rd Unit) (x : World) : Prop where
  mw : Below w.heap.size w x
  pl : PlS x (w.heap.size + 1) 66 S σ
  res : x.heap[w.heap.size]? = some (.cells #[.slice none 0 0, .slice none 0 0] 25 (0, 0))
  var : x.heap[w.heap.size + 2]? = some (.cells cs.toArray 25 (0, 0))
theorem Hst.call {S : Sc} {w x y : World} {cs : List Value} {σ σ' : Rd Unit} (h : Hst S w cs σ x) (hm : Moves (w.heap.size + 1) x y) (hp : PlS y (w.heap.size + 1) 66 S σ') : Hst S w cs σ' y :=
  ⟨h.mw.trans (hm.below (Nat.le_succ _) h.mw.size), hp, by rw [hm.at (lt_of_some h.res) (by omega)]; exact h.res, by rw [hm.at (lt_of_some h.var) (by omega)]; exact h.var⟩
theorem Hst.set {S : Sc} {w x : World} {cs : List Value} {σ : Rd Unit} (h : Hst S w cs σ x) (k : Nat) (v : Value) : Hst S w (cs.set k v) σ (x.setCell ⟨w.heap.size + 2, k, none⟩ v) := by
  have hb : Below (w.heap.size + 2) x (x.setCell ⟨w.heap.size + 2, k, none⟩ v) := (Below.refl _ _).setCell (p := ⟨w.heap.size + 2, k, none⟩) (Nat.le_refl _) v
  have k1 := heap_setCell_same x (w.heap.size + 2) k _ 25 v h.var
  refine ⟨h.mw.trans (hb.mono (by omega)), h.pl.low hb (by omega), by rw [hb.block _ (by omega)]; exact h.res, ?_⟩
  rw [k1]
  simp
theorem Hst.cell {S : Sc} {w x : World} {cs : List Value} {σ : Rd Unit} (h : Hst S w cs σ x) {k : Nat} {v : Value} (hv : cs[k]? = some v) : x.cell? ⟨w.heap.size + 2, k, none⟩ = some v ∧ x.frozen? ⟨w.heap.size + 2, k, none⟩ = false := by
  refine ⟨?_, frozen_of_row _ _ _ _ _ h.var⟩
  rw [cell_of_row _ _ _ _ _ _ h.var]
  simpa using hv
theorem Hst.low {S : Sc} {w x y : World} {cs : List Value} {σ : Rd Unit} (h : Hst S w cs σ x) (hb : Below (w.heap.size + 3) x y) : Hst S w cs σ y :=
  ⟨h.mw.trans (hb.mono (by omega)), h.pl.low hb (by omega), by rw [hb.block _ (by omega)]; exact h.res, by rw [hb.block _ (by omega)]; exact h.var⟩
/-- the codes so far -/
def Cods (w : World) (t : List Cd) (m : Nat) (xs : List Value) : Prop := m = t.length ∧ CosC (RowT w 43) (RowT w 50) t xs ∧ ∀ c ∈ t, Byt c.name
theorem Cods.kept {w w' : World} {t : List Cd} {m : Nat} {xs : List Value} (h : Cods w t m xs) (h1 : KeptT 43 w w') (h2 : KeptT 50 w w') : Cods w' t m xs :=
  ⟨h.1, h.2.1.mono (fun _ _ _ h => h.kept h1) (fun _ _ _ h => h.kept h2), h.2.2⟩

set_option maxHeartbeats 3200000 in
theorem refGet (A : Option Addr) (l : List Int) (c : Nat) (w : World) (hc : l.length ≤ c) (hcm : c ≤ maxLen) (hl : Lies w w.heap.size A c (cellsOf l)) (hby : Byt l) :
    Calls Tryd.prog 15 #[.slice A l.length c] w (GetGot l w) := by
  obtain ⟨S, hSA, hSc, hSl⟩ : ∃ S : Sc, S.A = A ∧ S.c = c ∧ S.l = l := ⟨⟨A, c, l, hby, hc, hcm⟩, rfl, rfl, rfl⟩
  subst hSA hSc hSl
  have G0 : Hid (Hst S w [.slice none 0 0, .slice none 0 0] (.ok () 0) (((w.alloc (.cells #[.slice none 0 0, .slice none 0 0] 25)).alloc (.cells #[.slice S.A S.l.length S.c, .int .i64 0, .int .i64 0] 66)).alloc (.cells #[.slice none 0 0, .slice none 0 0] 25))) := by
    have b1 : Below w.heap.size w (w.alloc (.cells #[.slice none 0 0, .slice none 0 0] 25)) := (Below.refl _ _).alloc (Nat.le_refl _) _
    have b3 : Below w.heap.size w (((w.alloc (.cells #[.slice none 0 0, .slice none 0 0] 25)).alloc (.cells #[.slice S.A S.l.length S.c, .int .i64 0, .int .i64 0] 66)).alloc (.cells #[.slice none 0 0, .slice none 0 0] 25)) := (b1.alloc b1.size _).alloc (by simp; omega) _
    refine ⟨b3, ⟨0, 0, ⟨?_, (hl.below b3).more (Nat.le_succ _)⟩, .inl ⟨rfl, rfl, by omega, by omega⟩⟩, ?_, ?_⟩
    · rw [Below.heap_alloc _ _ _ (by simp)]
      have := heap_alloc_new (w.alloc (.cells #[.slice none 0 0, .slice none 0 0] 25)) (.cells #[.slice S.A S.l.length S.c, .int .i64 0, .int .i64 0] 66)
      rw [World.size_alloc] at this
      exact this
    · rw [Below.heap_alloc _ _ _ (by simp; omega), Below.heap_alloc _ _ _ (by simp)]
      exact heap_alloc_new w _
    · have := heap_alloc_new ((w.alloc (.cells #[.slice none 0 0, .slice none 0 0] 25)).alloc (.cells #[.slice S.A S.l.length S.c, .int .i64 0, .int .i64 0] 66)) (.cells #[.slice none 0 0, .slice none 0 0] 25)
      rw [World.size_alloc, World.size_alloc] at this
      exact this
  have hmx := S.hc
  have hmy := S.hcm
  unfold maxLen at hmy
  clear hl hc hcm hby
  go_enter Tryd.func15, Tryd.ntmps15
  go_upto_region 3 with fail
  generalize (((w.alloc (.cells #[.slice none 0 0, .slice none 0 0] 25)).alloc (.cells #[.slice S.A S.l.length S.c, .int .i64 0, .int .i64 0] 66)).alloc (.cells #[.slice none 0 0, .slice none 0 0] 25)) = x0 at *
  obtain ⟨rM, hrM⟩ : ∃ r, r = manyR S.l 64 0 := ⟨_, rfl⟩
  obtain ⟨r1, hr1⟩ : ∃ r, r = rowOf S.l 64 (codeR S.l) 0 := ⟨_, rfl⟩
  have HR1 := Lib.hid hr1
  have HRM : Hid (r1 = rM.bind fun n q => elemsR (codeR S.l) q n.toNat) := Lib.hid (by rw [hr1, hrM]; rfl)
  have HMI : Hid (∀ n q, rM = .ok n q → 0 ≤ n ∧ n ≤ 64) := fun n q h => by
    rw [hrM] at h
    have := manyR_in h
    omega
  have K := Lib.hid (rmany (w.heap.size + 1) S 64 (.ok () 0) x0 G0.out.pl)
  rw [Rd.bind_ok, ← hrM] at K
  clear hrM hr1
  go_wp2_with fail
  refine K.out.mono ?_
  clear K
  rintro e x3 ⟨v3, rfl, hm3, hp3, ⟨n3, rfl⟩, hv3⟩
  have G3 := Lib.hid (G0.out.call hm3 hp3)
  have V3 : Hid (∀ a q, rM = .ok a q → a = n3) := fun a q h => by have := hv3 a q h; injection this with _ this; exact this.symm
  clear hm3 hp3 hv3 G0
  obtain ⟨i0, hi, hz0, hz1, hz2⟩ := info_parts info46c
  go_upto_block 0 with fail
  go_cut [] (fun wx => ∃ (v : Value) (m : Nat) (xs : List Value), Hid (Hst S w [v, .slice none 0 0] r1.st wx) ∧ Hid (wx.ownsRow (w.heap.size + 3) 46 5 v m xs) ∧ Hid (∀ t q, r1 = .ok t q → Cods wx t m xs))
  case first =>
    go_wp2_with fail
    go_loopw [7] (fun i wr => ∃ (k m : Nat) (v : Value) (xs : List Value), i = .int .i64 k ∧ m ≤ k ∧ k ≤ 64 ∧ Hid (wr.ownsRow (w.heap.size + 3) 46 5 v m xs) ∧ Hid (Hst S w [v, .slice none 0 0] (rM.bind fun _ q => elemsR (codeR S.l) q k).st wr) ∧ Hid (∀ t q, (rM.bind fun _ q => elemsR (codeR S.l) q k) = .ok t q → Cods wr t m xs) ∧ Hid (∀ n q, rM = .ok n q → (k : Int) ≤ n)) (fun i _ => 64 - (intOf i).toNat)
    case atStart =>
      refine ⟨0, 0, .slice none 0 0, [], rfl, Nat.le_refl _, Nat.zero_le _, World.ownsRow_nil _ _ _ _, ?_, fun t q h => ?_, fun n q h => (HMI.out n q h).1⟩
      · have : (rM.bind fun _ q => elemsR (codeR S.l) q 0).st = rM.st := by cases rM <;> rfl
        rw [this]
        exact G3.out
      · cases rM with
        | bad e => cases h
        | ok n q0 =>
          injection h with h1 h2
          subst h1
          exact ⟨rfl, .nil, fun c hc => by cases hc⟩
    case round =>
      clear G3
      obtain ⟨k, m, v, xs, rfl, hmk, hk16, HO, HS, HI, HK⟩ := hrel
      obtain ⟨pk, ek, hak, hsk⟩ := HS.out.pl
      obtain ⟨c0, c1, c2, _⟩ := hak.cell
      rcases hsk with ⟨hst, rfl, q0, ql⟩ | ⟨hst, hne⟩
      · obtain ⟨n, qM, hMo, t, ht⟩ : ∃ n qM, rM = .ok n qM ∧ ∃ t, elemsR (codeR S.l) qM k = .ok t pk := by
          cases rM with
          | bad e => cases hst
          | ok n qM =>
            refine ⟨n, qM, rfl, ?_⟩
            have hst : (elemsR (codeR S.l) qM k).st = .ok () pk := hst
            cases hx : elemsR (codeR S.l) qM k with
            | ok a q => rw [hx] at hst; injection hst with _ e2; exact ⟨a, by rw [e2]⟩
            | bad e => rw [hx] at hst; cases hst
        obtain rfl := V3.out _ _ hMo
        have hn16 := (HMI.out _ _ hMo).2
        by_cases hkn : (k : Int) < n
        · have K := Lib.hid (rcode (w.heap.size + 1) S (.ok () pk) wr ⟨pk, 0, hak, .inl ⟨rfl, rfl, q0, ql⟩⟩)
          have HCO := Lib.hid (HI.out t pk (by rw [hMo]; exact ht))
          have HNX : Hid ((rM.bind fun _ q => elemsR (codeR S.l) q (k + 1)) = (codeR S.l pk).bind fun a r => .ok (t ++ [a]) r) := Lib.hid (by rw [hMo]; show (elemsR (codeR S.l) qM k).bind _ = _; rw [ht]; rfl)
          clear ht hMo hst
          go_wp2_with fail
          refine K.out.mono ?_
          clear K
          rintro e w5 ⟨v5, rfl, hm5, hp5, ⟨s5, A5, n5, c5, x5, y5, B5, m5, d5, rfl⟩, hv5⟩
          have S5 := Lib.hid (HS.out.call hm5 hp5)
          have O5 := Lib.hid (own_moves HO.out hm5 (by omega))
          have V5 := Lib.hid hv5
          have CO5 : Hid (Cods w5 t m xs) := by
            obtain ⟨cc, hcc⟩ := HS.out.pl.tag
            exact HCO.out.kept (KeptT.moves hm5 hcc (by decide)) (KeptT.moves hm5 hcc (by decide))
          obtain ⟨d0, d0f⟩ := S5.out.cell (k := 0) rfl
          have hs5 : w.heap.size + 3 ≤ w5.heap.size := lt_of_some S5.out.var
          have bt : Below w5.heap.size w5 ((w5.alloc (.cells #[.string s5, .slice A5 n5 c5, .int .i64 x5, .int .i64 y5, .slice B5 m5 d5] 46)).alloc (.cells #[.string s5, .slice A5 n5 c5, .int .i64 x5, .int .i64 y5, .slice B5 m5 d5] 46)) := ((Below.refl w5.heap.size w5).alloc (Nat.le_refl _) _).alloc (by rw [World.size_alloc]; omega) _
          have BT := Lib.hid (bt.mono hs5)
          have HBS : Hid (((w5.alloc (.cells #[.string s5, .slice A5 n5 c5, .int .i64 x5, .int .i64 y5, .slice B5 m5 d5] 46)).alloc (.cells #[.string s5, .slice A5 n5 c5, .int .i64 x5, .int .i64 y5, .slice B5 m5 d5] 46)).heap.size = w5.heap.size + 2) := Lib.hid (by rw [World.size_alloc, World.size_alloc])
          have O6 := Lib.hid (own_below O5.out bt (Nat.le_refl _))
          have gA : ((w5.alloc (.cells #[.string s5, .slice A5 n5 c5, .int .i64 x5, .int .i64 y5, .slice B5 m5 d5] 46)).alloc (.cells #[.string s5, .slice A5 n5 c5, .int .i64 x5, .int .i64 y5, .slice B5 m5 d5] 46)).heap[w5.heap.size]? = some (.cells #[.string s5, .slice A5 n5 c5, .int .i64 x5, .int .i64 y5, .slice B5 m5 d5] 46 (0, 0)) := (Below.heap_alloc _ _ _ (by rw [World.size_alloc]; omega)).trans (heap_alloc_new w5 _)
          have gB : ((w5.alloc (.cells #[.string s5, .slice A5 n5 c5, .int .i64 x5, .int .i64 y5, .slice B5 m5 d5] 46)).alloc (.cells #[.string s5, .slice A5 n5 c5, .int .i64 x5, .int .i64 y5, .slice B5 m5 d5] 46)).heap[w5.heap.size + 1]? = some (.cells #[.string s5, .slice A5 n5 c5, .int .i64 x5, .int .i64 y5, .slice B5 m5 d5] 46 (0, 0)) := by
            have := heap_alloc_new (w5.alloc (.cells #[.string s5, .slice A5 n5 c5, .int .i64 x5, .int .i64 y5, .slice B5 m5 d5] 46)) (.cells #[.string s5, .slice A5 n5 c5, .int .i64 x5, .int .i64 y5, .slice B5 m5 d5] 46)
            rw [World.size_alloc] at this
            exact this
          have LA : Hid (Lies ((w5.alloc (.cells #[.string s5, .slice A5 n5 c5, .int .i64 x5, .int .i64 y5, .slice B5 m5 d5] 46)).alloc (.cells #[.string s5, .slice A5 n5 c5, .int .i64 x5, .int .i64 y5, .slice B5 m5 d5] 46)) ((w5.alloc (.cells #[.string s5, .slice A5 n5 c5, .int .i64 x5, .int .i64 y5, .slice B5 m5 d5] 46)).alloc (.cells #[.string s5, .slice A5 n5 c5, .int .i64 x5, .int .i64 y5, .slice B5 m5 d5] 46)).heap.size (some ⟨w5.heap.size + 1, 0, none⟩) 1 [.string s5, .slice A5 n5 c5, .int .i64 x5, .int .i64 y5, .slice B5 m5 d5]) := Lib.hid (row_lies gB)
          have CO6 : Hid (Cods ((w5.alloc (.cells #[.string s5, .slice A5 n5 c5, .int .i64 x5, .int .i64 y5, .slice B5 m5 d5] 46)).alloc (.cells #[.string s5, .slice A5 n5 c5, .int .i64 x5, .int .i64 y5, .slice B5 m5 d5] 46)) t m xs) := CO5.out.kept (KeptT.below bt (Nat.le_refl _)) (KeptT.below bt (Nat.le_refl _))
          have K6 : Hid (∀ T, KeptT T w5 ((w5.alloc (.cells #[.string s5, .slice A5 n5 c5, .int .i64 x5, .int .i64 y5, .slice B5 m5 d5] 46)).alloc (.cells #[.string s5, .slice A5 n5 c5, .int .i64 x5, .int .i64 y5, .slice B5 m5 d5] 46))) := fun T => KeptT.below bt (Nat.le_refl _)
          have da0 := (heap_alloc_new w5 (.cells #[.string s5, .slice A5 n5 c5, .int .i64 x5, .int .i64 y5, .slice B5 m5 d5] 46))
          have dd0 := (S5.out.low (((Below.refl w5.heap.size w5).alloc (Nat.le_refl _) (.cells #[.string s5, .slice A5 n5 c5, .int .i64 x5, .int .i64 y5, .slice B5 m5 d5] 46)).mono hs5)).cell (k := 0) rfl |>.1
          have db0 : (w5.alloc (.cells #[.string s5, .slice A5 n5 c5, .int .i64 x5, .int .i64 y5, .slice B5 m5 d5] 46)).cell? ⟨w5.heap.size, 0, none⟩ = some (.string s5) := by rw [cell_of_row _ _ _ _ _ _ da0]; rfl
          have db1 : (w5.alloc (.cells #[.string s5, .slice A5 n5 c5, .int .i64 x5, .int .i64 y5, .slice B5 m5 d5] 46)).cell? ⟨w5.heap.size, 1, none⟩ = some (.slice A5 n5 c5) := by rw [cell_of_row _ _ _ _ _ _ da0]; rfl
          have db2 : (w5.alloc (.cells #[.string s5, .slice A5 n5 c5, .int .i64 x5, .int .i64 y5, .slice B5 m5 d5] 46)).cell? ⟨w5.heap.size, 2, none⟩ = some (.int .i64 x5) := by rw [cell_of_row _ _ _ _ _ _ da0]; rfl
          have db3 : (w5.alloc (.cells #[.string s5, .slice A5 n5 c5, .int .i64 x5, .int .i64 y5, .slice B5 m5 d5] 46)).cell? ⟨w5.heap.size, 3, none⟩ = some (.int .i64 y5) := by rw [cell_of_row _ _ _ _ _ _ da0]; rfl
          have db4 : (w5.alloc (.cells #[.string s5, .slice A5 n5 c5, .int .i64 x5, .int .i64 y5, .slice B5 m5 d5] 46)).cell? ⟨w5.heap.size, 4, none⟩ = some (.slice B5 m5 d5) := by rw [cell_of_row _ _ _ _ _ _ da0]; rfl
          clear bt gA gB hm5 hp5 hv5 c0 c1 c2 hak da0 d0 d0f
          go_wp2_with (at_builtin; refine wpList_append_gro _ rfl (.tmp 33) (.tmp 35) 22 rfl (w.heap.size + 3) 46 i0 _ 5 80 Tryd.underlying22 hi hz0 hz1 hz2 rfl (by omega) _ m xs rfl O6.out _ (some ⟨w5.heap.size + 1, 0, none⟩) 1 1 [.string s5, .slice A5 n5 c5, .int .i64 x5, .int .i64 y5, .slice B5 m5 d5] rfl rfl LA.out (ones5 _ _ _ _ _ _ _ _ _) (by unfold maxLen; omega) (by omega) (by have := HBS.out; omega) ?_; intro v7 w7 ho7 hg7; have B7 := Lib.hid (BT.out.trans (hg7.below O6.out (by have := HBS.out; omega))); have S7 := Lib.hid (S5.out.low B7.out); have OZ := Lib.hid ho7; have KG : Hid (∀ T, T ≠ 46 → KeptT T w5 w7) := (fun T hT => (K6.out T).trans (KeptT.grown O6.out hg7.1 hT)); obtain ⟨e1, e1f⟩ := S7.out.cell (k := 0) rfl; obtain ⟨A7, c7, rfl⟩ := (RowT.own ho7).is; clear ho7 hg7 dd0 db0 db1 db2 db3 db4)
          have S8 : Hid (Hst S w [.slice A7 (m + 1) c7, .slice none 0 0] _ (w7.setCell ⟨w.heap.size + 2, 0, none⟩ (.slice A7 (m + 1) c7))) := Lib.hid (S7.out.set 0 (.slice A7 (m + 1) c7))
          have O8 := Lib.hid (own_moves OZ.out (Moves.set w7 (w.heap.size + 2) 0 (.slice A7 (m + 1) c7)) (by omega))
          have KF : Hid (∀ T, T ≠ 46 → T ≠ 25 → KeptT T w5 (w7.setCell ⟨w.heap.size + 2, 0, none⟩ (.slice A7 (m + 1) c7))) := fun T h1 h2 => (KG.out T h1).trans (KeptT.set S7.out.var h2)
          have HST : Hid ((rM.bind fun _ q => elemsR (codeR S.l) q (k + 1)).st = (((.ok () pk : Rd Unit).bind fun _ p => codeR S.l p)).st) := Lib.hid (by rw [HNX.out, Rd.bind_ok]; cases codeR S.l pk <;> rfl)
          have HIN : Hid (∀ u q, (rM.bind fun _ q => elemsR (codeR S.l) q (k + 1)) = .ok u q → Cods (w7.setCell ⟨w.heap.size + 2, 0, none⟩ (.slice A7 (m + 1) c7)) u (m + 1) (xs ++ [.string s5, .slice A5 n5 c5, .int .i64 x5, .int .i64 y5, .slice B5 m5 d5])) := fun u q hu => by
            rw [HNX.out] at hu
            obtain ⟨a, q', ha, hu⟩ := Rd.bind_is hu
            injection hu with hu1 hu2
            subst hu1
            obtain ⟨P, I, hva, g1, g2, g3⟩ := V5.out a q' (by rw [Rd.bind_ok]; exact ha)
            injection hva with hva
            have hva : [.string s5, .slice A5 n5 c5, .int .i64 x5, .int .i64 y5, .slice B5 m5 d5] = coC a P I := by
              have := congrArg Array.toList hva
              simpa using this
            obtain ⟨k1, k2, k3⟩ := CO5.out.kept (KF.out 43 (by decide) (by decide)) (KF.out 50 (by decide) (by decide))
            refine ⟨by rw [List.length_append, k1]; rfl, ?_, fun c hc => ?_⟩
            · rw [hva]
              exact k2.snoc (g1.kept (KF.out 43 (by decide) (by decide))) (g2.kept (KF.out 50 (by decide) (by decide)))
            · rcases List.mem_append.1 hc with hc | hc
              · exact k3 c hc
              · rw [List.mem_singleton.1 hc]
                exact g3
          have HKN : Hid (∀ n' q, rM = .ok n' q → ((k + 1 : Nat) : Int) ≤ n') := fun n' q h => by
            have := V3.out _ _ h
            omega
          clear e1 e1f
          go_roundw
          case rel => exact ⟨k + 1, m + 1, _, _, by go_num, by omega, by omega, Lib.hid O8.out, Lib.hid (by rw [HST.out]; exact S8.out), HIN, HKN⟩
          case measure => simp [intOf]; omega
        · have hkn2 : (k : Int) = n := by have := HK.out _ _ hMo; omega
          have HEX : Hid (r1 = (rM.bind fun _ q => elemsR (codeR S.l) q k)) := Lib.hid (by rw [HRM.out]; exact elems_all hMo hkn2)
          clear ht hMo hst hkn2
          go_wp2_with fail
          go_meet
          exact ⟨v, m, xs, by rw [HEX.out]; exact HS, HO, by rw [HEX.out]; exact HI⟩
      · have HEX : Hid (r1 = .bad ek) := Lib.hid (by
          rw [HRM.out]
          refine elems_state ?_ HK.out
          cases hx : (rM.bind fun _ q => elemsR (codeR S.l) q k) with
          | ok a q => rw [hx] at hst; cases hst
          | bad e => rw [hx] at hst; injection hst with hst; rw [hst])
        have HEY : Hid ((rM.bind fun _ q => elemsR (codeR S.l) q k).st = r1.st) := Lib.hid (by rw [hst, HEX.out]; rfl)
        have hne2 : (ek == 0) = false := by simpa using hne
        clear hst
        by_cases hkn : (k : Int) < n3
        · go_wp2_with fail
          go_meet
          exact ⟨v, m, xs, by rw [← HEY.out]; exact HS, HO, fun t q h => (by rw [HEX.out] at h; cases h)⟩
        · go_wp2_with fail
          go_meet
          exact ⟨v, m, xs, by rw [← HEY.out]; exact HS, HO, fun t q h => (by rw [HEX.out] at h; cases h)⟩
  case rest =>
    obtain ⟨v, m, xs, HS, HO, HI⟩ := hcut
    obtain ⟨Av, cv, rfl⟩ := (RowT.own HO.out).is
    obtain ⟨r2, hr2⟩ : ∃ r, r = r1.st.bind fun _ p => rowR S.l p := ⟨_, rfl⟩
    obtain ⟨hp1, hp2⟩ := get_parts S.l r1 r2 HR1.out hr2
    obtain ⟨p, e, ha, hs⟩ := HS.out.pl
    obtain ⟨c0, c1, c2', c3⟩ := ha.cell
    have HTH : Hid (wc.there w.heap.size 0 2) := Lib.hid (there_cells (cs := [.slice none 0 0, .slice none 0 0]) HS.out.res rfl)
    rcases hs with ⟨hst, rfl, p0, pl⟩ | ⟨hst, hne⟩
    · have KR := Lib.hid (refRowB S.A S.l S.c p wc S.hc S.hcm (ha.2.more (Nat.le_of_lt ha.lt)) S.hby)
      obtain ⟨cs, q, hcs⟩ : ∃ cs q, r1 = .ok cs q := by
        cases r1 with
        | ok a q => exact ⟨a, q, rfl⟩
        | bad e => cases hst
      have hqp : q = p := by rw [hcs] at hst; injection hst
      subst hqp
      have HCO := Lib.hid (HI.out cs q hcs)
      have HR2 : Hid (r2 = rowR S.l q) := Lib.hid (by rw [hr2, hcs]; rfl)
      have HP1 := Lib.hid hp1
      have HP2 := Lib.hid hp2
      have HCS := Lib.hid hcs
      clear hp1 hp2 hst hr2 hcs
      go_wp2_with fail
      refine KR.out.mono ?_
      clear KR
      rintro e w6 ⟨v6, rfl, hv, hb6⟩
      have hlt3 : w.heap.size + 3 ≤ wc.heap.size := lt_of_some HS.out.var
      have S6 := Lib.hid (HS.out.low (hb6.mono hlt3))
      have HT6 : Hid (w6.there w.heap.size 0 2) := Lib.hid (there_cells (cs := [.slice none 0 0, .slice none 0 0]) S6.out.res rfl)
      by_cases h0 : rowE S.l q = 0
      · have HR2b : Hid (r2 = .ok (roL S.l q) (roT S.l q)) := Lib.hid (by rw [HR2.out]; unfold rowR roL roT; rw [if_pos h0, if_pos h0, if_pos h0])
        have HPT : Hid (partsR S.l = .ok ⟨cs, roL S.l q⟩ (roT S.l q)) := Lib.hid (by
          obtain ⟨cs', q', ts', e1, e2, e3⟩ := HP2.out (roT S.l q) (by rw [HR2b.out]; rfl)
          rw [HCS.out] at e1
          rw [HR2b.out] at e2
          injection e1 with e1
          injection e2 with e2
          rw [e3, ← e1, ← e2])
        have GT := Lib.hid (GridT.own hv)
        obtain ⟨A6, c6, rfl, g1, g2, _⟩ := hv.grid
        have HR2c := HR2b
        clear HR2b HR2c HP2 HP1 HR2
        generalize roL S.l q = ts at *
        generalize roT S.l q = T at *
        have W0 : Hid (RowT wc 46 m xs (.slice Av m cv)) := Lib.hid (RowT.own HO.out)
        have hmc : m = cs.length := HCO.out.1
        subst hmc
        have hcv : cs.length ≤ cv ∧ cv ≤ maxLen := by
          obtain ⟨A, c, h, h1, h2, _⟩ := W0.out
          injection h with _ _ h
          subst h
          exact ⟨h1, h2⟩
        obtain ⟨hc1, hc2⟩ := hcv
        have KB6 : Hid (∀ T, KeptT T wc w6) := fun T => KeptT.below hb6 (Nat.le_refl _)
        obtain ⟨d1, d1f⟩ := S6.out.cell (k := 1) rfl
        have S7 : Hid (Hst S w [.slice Av cs.length cv, .slice A6 ts.length c6] r1.st (w6.setCell ⟨w.heap.size + 2, 1, none⟩ (.slice A6 ts.length c6))) := Lib.hid (S6.out.set 1 (.slice A6 ts.length c6))
        have KB7 : Hid (∀ T, T ≠ 25 → KeptT T w6 (w6.setCell ⟨w.heap.size + 2, 1, none⟩ (.slice A6 ts.length c6))) := fun T hT => KeptT.set S6.out.var hT
        clear hb6 hv c0 c1 c2' c3 ha
        unfold maxLen at g2 hc2
        go_upto_region 15 with fail
        clear d1 d1f
        generalize w6.setCell ⟨w.heap.size + 2, 1, none⟩ (.slice A6 ts.length c6) = y7 at *
        have MK : Hid (∀ z, (∀ T, T ≠ 25 → KeptT T y7 z) → ModV z z.heap.size ⟨cs, ts⟩ (.agg #[.slice Av cs.length cv, .slice A6 ts.length c6])) := fun z hz => by
          have hk : ∀ T, T ≠ 25 → KeptT T wc z := fun T h => (KB6.out T).trans ((KB7.out T h).trans (hz T h))
          have hk6 : ∀ T, T ≠ 25 → KeptT T w6 z := fun T h => (KB7.out T h).trans (hz T h)
          have k1 := (W0.out.kept (hk 46 (by decide))).lies
          have k2 := (HCO.out.kept (hk 43 (by decide)) (hk 50 (by decide))).2.1.mono (fun _ _ _ h => h.lies) (fun _ _ _ h => h.lies)
          have k3 := (GT.out.kept (hk6 26 (by decide)) (hk6 5 (by decide))).lies
          obtain ⟨A, c, h1, h2, h3, h4⟩ := k1
          exact ⟨_, _, rfl, ⟨A, c, xs, h1, h2, h3, h4, k2⟩, k3⟩
        have HNM : Hid (∀ c ∈ cs, Byt c.name) := HCO.out.2.2
        have KR := Lib.hid (refRight ⟨cs, ts⟩ (.agg #[.slice Av cs.length cv, .slice A6 ts.length c6]) y7 (MK.out y7 (fun T _ b cc fr h => h)))
        obtain ⟨v0, _⟩ := S7.out.cell (k := 0) rfl
        obtain ⟨v1, _⟩ := S7.out.cell (k := 1) rfl
        go_wp2_with fail
        refine KR.out.mono ?_
        clear KR v0 v1
        rintro e y8 ⟨rfl, hb8⟩
        have B8 := Lib.hid (S7.out.mw.trans (hb8.mono S7.out.mw.size))
        have hres : y8.heap[w.heap.size]? = some (.cells #[.slice none 0 0, .slice none 0 0] 25 (0, 0)) := by rw [hb8.block _ (lt_of_some S7.out.res)]; exact S7.out.res
        have hvar : y8.heap[w.heap.size + 2]? = some (.cells #[.slice Av cs.length cv, .slice A6 ts.length c6] 25 (0, 0)) := by rw [hb8.block _ (lt_of_some S7.out.var)]; exact S7.out.var
        have HT8 : Hid (y8.there w.heap.size 0 2) := Lib.hid (there_cells (cs := [.slice none 0 0, .slice none 0 0]) hres rfl)
        have HR8 := Lib.hid (range_of (cs := [.slice Av cs.length cv, .slice A6 ts.length c6]) hvar)
        have HRES := Lib.hid hres
        have HB8 := Lib.hid hb8
        clear hb8 hres hvar
        by_cases hpe : T = S.l.length
        · cases hok : okMd ⟨cs, ts⟩ with
          | false =>
            have HG : Hid (getR S.l = .bad 111) := Lib.hid (by unfold getR; rw [HPT.out, Rd.bind_ok, if_neg (fun h => by rw [hok] at h; cases h.2)])
            have hpb : (T != (S.l.length : Int)) = false := by simpa using hpe
            clear hok hpe
            go_wp2_with (refine wpList_storeN info25s rfl (.tmp 2) (.tmp 74) rfl rfl w.heap.size rfl [.slice none 0 0, .slice none 0 0] rfl rfl HT8.out (by simp [Value.oneCell']) ?_; intro w9 g1 g2 g3 g4 g5)
            refine bodyPost_ret (ret_two Tryd.results15 _ _ w.heap.size [.slice none 0 0, .slice none 0 0] rfl g1 rfl) rfl ?_
            exact ⟨B8.out.trans g3, .inr ⟨111, HG.out, by decide, rfl⟩⟩
          | true =>
            have HG : Hid (getR S.l = .ok ⟨cs, ts⟩ S.l.length) := Lib.hid (by unfold getR; rw [HPT.out, Rd.bind_ok, if_pos ⟨hpe, hok⟩, hpe])
            have hpb : (T != (S.l.length : Int)) = false := by simpa using hpe
            clear hok hpe
            go_wp2_with (first | (refine wpList_load_mid rfl 25 (.tmp 5) rfl (w.heap.size + 2) 0 rfl [.slice Av cs.length cv, .slice A6 ts.length c6] _ HR8.out Tryd.underlying25 rfl info25s ?_; refine Hid.out ?_) | fail)
            refine Lib.hid ?_
            go_wp2_with (refine wpList_storeN info25s rfl (.tmp 2) (.tmp 75) rfl rfl w.heap.size rfl [.slice Av cs.length cv, .slice A6 ts.length c6] rfl rfl HT8.out (by simp [Value.oneCell']) ?_; intro w9 g1 g2 g3 g4 g5)
            refine bodyPost_ret (ret_two Tryd.results15 _ _ w.heap.size [.slice Av cs.length cv, .slice A6 ts.length c6] rfl g1 rfl) rfl ?_
            refine ⟨B8.out.trans g3, .inl ⟨_, _, _, HG.out, rfl, MK.out w9 (fun T h25 b cc fr hb => ?_), HNM.out⟩⟩
            have h5 := KeptT.below (T := T) HB8.out (Nat.le_refl _) b cc fr hb
            rw [g4 b (by rintro rfl; rw [HRES.out] at h5; injection h5 with e; injection e with _ e _; exact h25 e.symm)]
            exact h5
        · have HG : Hid (getR S.l = .bad 111) := Lib.hid (by unfold getR; rw [HPT.out, Rd.bind_ok, if_neg (fun h => hpe h.1)])
          have hpb : (T != (S.l.length : Int)) = true := by simpa using hpe
          clear hpe
          go_wp2_with (refine wpList_storeN info25s rfl (.tmp 2) (.tmp 74) rfl rfl w.heap.size rfl [.slice none 0 0, .slice none 0 0] rfl rfl HT8.out (by simp [Value.oneCell']) ?_; intro w9 g1 g2 g3 g4 g5)
          refine bodyPost_ret (ret_two Tryd.results15 _ _ w.heap.size [.slice none 0 0, .slice none 0 0] rfl g1 rfl) rfl ?_
          exact ⟨B8.out.trans g3, .inr ⟨111, HG.out, by decide, rfl⟩⟩
      · have hb := HP1.out (rowE S.l q) (by rw [HR2.out]; unfold rowR; rw [if_neg h0]; rfl)
        have HG : Hid (getR S.l = .bad (rowE S.l q)) := Lib.hid (by unfold getR; rw [hb]; rfl)
        have hne2 : (rowE S.l q != 0) = true := by simpa using h0
        have HMW := Lib.hid S6.out.mw
        have HH0 := Lib.hid h0
        clear hb h0 hb6 hv c0 c1 c2' c3 ha
        go_wp2_with (refine wpList_storeN info25s rfl (.tmp 2) (.tmp 60) rfl rfl w.heap.size rfl [.slice none 0 0, .slice none 0 0] rfl rfl HT6.out (by simp [Value.oneCell']) ?_; intro w9 g1 g2 g3 g4 g5)
        refine bodyPost_ret (ret_two Tryd.results15 _ _ w.heap.size [.slice none 0 0, .slice none 0 0] rfl g1 rfl) rfl ?_
        exact ⟨HMW.out.trans g3, .inr ⟨_, HG.out, HH0.out, rfl⟩⟩
    · have hb := hp1 e (by rw [hr2, hst]; rfl)
      have HG : Hid (getR S.l = .bad e) := Lib.hid (by unfold getR; rw [hb]; rfl)
      have hne2 : (e != 0) = true := by simpa using hne
      have hcd : wc.drew.cell? ⟨w.heap.size + 1, 2, none⟩ = some (.int .i64 e) := c2'
      clear hp1 hp2 hb ha hst hr2
      go_wp2_with fail
      have f0 : wc.cell? ⟨w.heap.size, 0, none⟩ = some (.slice none 0 0) := by
        rw [cell_of_row _ _ _ _ _ _ HS.out.res]; rfl
      have f1 : (wc.setCell ⟨w.heap.size, 0, none⟩ (.slice none 0 0)).cell? ⟨w.heap.size, 1, none⟩ = some (.slice none 0 0) := by
        rw [cell_of_row _ _ _ _ _ _ (heap_setCell_same _ _ _ _ _ _ HS.out.res)]; rfl
      have f2 : wc.frozen? ⟨w.heap.size, 0, none⟩ = false := frozen_of_row _ _ _ _ _ HS.out.res
      have f3 : wc.frozen? ⟨w.heap.size, 1, none⟩ = false := frozen_of_row _ _ _ _ _ HS.out.res
      have hce : (((wc.setCell ⟨w.heap.size, 0, none⟩ (.slice none 0 0)).setCell ⟨w.heap.size, 1, none⟩ (.slice none 0 0)).drew).cell? ⟨w.heap.size + 1, 2, none⟩ = some (.int .i64 e) := by
        show World.cell? ((wc.setCell ⟨w.heap.size, 0, none⟩ (.slice none 0 0)).setCell ⟨w.heap.size, 1, none⟩ (.slice none 0 0)) _ = _
        rw [World.cell?_of_block (w := wc) (by rw [Below.heap_setCell _ _ _ _ (by simp), Below.heap_setCell _ _ _ _ (by simp)])]
        exact c2'
      go_region_held3 (fun w' => w'.cell? ⟨w.heap.size + 1, 2, none⟩ = some (.int .i64 e))
        (first | with_reducible exact hcd | with_reducible exact hce)
        (fail)
      have hrg : ((wc.setCell ⟨w.heap.size, 0, none⟩ (.slice none 0 0)).setCell ⟨w.heap.size, 1, none⟩ (.slice none 0 0)).drew.rangeAt w.heap.size 0 [.slice none 0 0, .slice none 0 0] := by
        have k1 := heap_setCell_same wc w.heap.size 0 _ 25 (.slice none 0 0) HS.out.res
        have k2 := heap_setCell_same _ w.heap.size 1 _ 25 (.slice none 0 0) k1
        exact range_of (cs := [.slice none 0 0, .slice none 0 0]) k2
      have HBW : Hid (Below w.heap.size w ((wc.setCell ⟨w.heap.size, 0, none⟩ (.slice none 0 0)).setCell ⟨w.heap.size, 1, none⟩ (.slice none 0 0)).drew) := Lib.hid (((HS.out.mw.setCell (p := ⟨w.heap.size, 0, none⟩) (Nat.le_refl _) _).setCell (p := ⟨w.heap.size, 1, none⟩) (Nat.le_refl _) _).drew)
      clear hce hcd f0 f1 f2 f3
      generalize ((wc.setCell ⟨w.heap.size, 0, none⟩ (.slice none 0 0)).setCell ⟨w.heap.size, 1, none⟩ (.slice none 0 0)).drew = wf at *
      go_wp2
      refine bodyPost_ret (ret_two Tryd.results15 _ _ w.heap.size [_, _] rfl hrg rfl) rfl ?_
      exact ⟨HBW.out, .inr ⟨e, HG.out, hne, rfl⟩⟩

end Go.Proofs.YtecjkmemihmkcaaDoor
