/- The document's own reading of a program. -/
import Derived.Test.YtcilgkdnjgmogaaGreatDoorMC
import Derived.Deep.DeepCutAuto
import Derived.Test.YtcilgkdnjgmogaaGreatDoorMA
namespace Go.Proofs.YtcilgkdnjgmogaaGreatDoor
section
open Go.RowKit
set_option maxRecDepth 100000
set_option linter.unusedSimpArgs false
set_option linter.unusedVariables false
def rgO (S : Src) (i e p : Nat) : Obj := .cells #[S.V, .int .i64 i, .int .i64 e, .int .i64 p, .int .i64 S.z] 83 (0, 0)
def Rg0 (w : World) (R : Nat) (S : Src) (i e p : Nat) : Prop := S.Ok w R ∧ i ≤ S.all.length ∧ w.heap[R]? = some (rgO S i e p)
def Rs (w : World) (R : Nat) (S : Src) : Res Unit → Prop
 | .ok _ ts => ∃ i, ts = S.all.drop i ∧ Rg0 w R S i 0 0
 | .bad c p => c ≠ 0 ∧ ∃ i, Rg0 w R S i c p
theorem Rg0.lt {w : World} {R : Nat} {S : Src} {i e p : Nat} (h : Rg0 w R S i e p) : R < w.heap.size := (Array.getElem?_eq_some_iff.1 h.2.2).1
theorem Rg0.below {w w' : World} {R B : Nat} {S : Src} {i e p : Nat} (h : Rg0 w R S i e p) (hb : Below B w w') (hB : w.heap.size ≤ B) : Rg0 w' R S i e p := by
 have hl := h.lt
 exact ⟨h.1.of fun k hk => hb.block k (by omega), h.2.1, by rw [hb.block R (by omega)]; exact h.2.2⟩
theorem Rs.lt {w : World} {R : Nat} {S : Src} {σ : Res Unit} (h : Rs w R S σ) : R < w.heap.size := by
 cases σ with
 | ok u ts => obtain ⟨i, _, h⟩ := h; exact h.lt
 | bad c p => obtain ⟨_, i, h⟩ := h; exact h.lt
theorem Rs.below {w w' : World} {R B : Nat} {S : Src} {σ : Res Unit} (h : Rs w R S σ) (hb : Below B w w') (hB : w.heap.size ≤ B) : Rs w' R S σ := by
 cases σ with
 | ok u ts => obtain ⟨i, e, h⟩ := h; exact ⟨i, e, h.below hb hB⟩
 | bad c p => obtain ⟨e, i, h⟩ := h; exact ⟨e, i, h.below hb hB⟩
theorem Rg0.cells {w : World} {R : Nat} {S : Src} {i e p : Nat} (h : Rg0 w R S i e p) : w.cell? ⟨R, 0, none⟩ = some S.V ∧ w.cell? ⟨R, 1, none⟩ = some (.int .i64 i) ∧ w.cell? ⟨R, 2, none⟩ = some (.int .i64 e) ∧ w.cell? ⟨R, 3, none⟩ = some (.int .i64 p) ∧ w.cell? ⟨R, 4, none⟩ = some (.int .i64 S.z) := by
 have h := h.2.2
 exact ⟨by rw [cell_of_row _ _ _ _ _ _ h]; rfl, by rw [cell_of_row _ _ _ _ _ _ h]; rfl, by rw [cell_of_row _ _ _ _ _ _ h]; rfl, by rw [cell_of_row _ _ _ _ _ _ h]; rfl, by rw [cell_of_row _ _ _ _ _ _ h]; rfl⟩
theorem Rg0.tok {w : World} {R : Nat} {S : Src} {i e p : Nat} (h : Rg0 w R S i e p) (hi : i < S.all.length) : ∃ g t, S.g = some g ∧ S.all[i]? = some t ∧ TokAt w g i t ∧ Byn t.text ∧ S.all.drop i = t :: S.all.drop (i + 1) := by
 have hg : S.all[i]? = some S.all[i] := List.getElem?_eq_getElem hi
 cases hgg : S.g with
 | none => rw [h.1.2.2.2.1 hgg] at hi; simp at hi
 | some g => exact ⟨g, _, rfl, hg, (h.1.2.2.2.2 g hgg).2 i _ hg, h.1.2.2.1 _ (List.getElem_mem hi), List.drop_eq_getElem_cons hi⟩
theorem Rg0.len {w : World} {R : Nat} {S : Src} {i e p : Nat} (h : Rg0 w R S i e p) : S.all.length ≤ S.c ∧ S.c ≤ 9223372036854775807 := ⟨h.1.1, by have := h.1.2.1; unfold maxLen at this; omega⟩
theorem Rg0.set1 {w : World} {R : Nat} {S : Src} {i e p : Nat} (h : Rg0 w R S i e p) (hi : i < S.all.length) : Rg0 (w.setCell ⟨R, 1, none⟩ (.int .i64 ((i : Int) + 1))) R S (i + 1) e p := by
 refine ⟨h.1.of fun k hk => Below.heap_setCell _ _ _ _ (by show k ≠ R; omega), hi, ?_⟩
 simp only [World.setCell, Array.getElem?_modify, if_true]
 rw [h.2.2]
 rfl
theorem Rg0.set2 {w : World} {R : Nat} {S : Src} {i e p : Nat} (h : Rg0 w R S i e p) (e' : Nat) : Rg0 (w.setCell ⟨R, 2, none⟩ (.int .i64 (e' : Int))) R S i e' p := by
 refine ⟨h.1.of fun k hk => Below.heap_setCell _ _ _ _ (by show k ≠ R; omega), h.2.1, ?_⟩
 simp only [World.setCell, Array.getElem?_modify, if_true]
 rw [h.2.2]
 rfl
theorem Rg0.set3 {w : World} {R : Nat} {S : Src} {i e p : Nat} (h : Rg0 w R S i e p) (p' : Nat) : Rg0 (w.setCell ⟨R, 3, none⟩ (.int .i64 (p' : Int))) R S i e p' := by
 refine ⟨h.1.of fun k hk => Below.heap_setCell _ _ _ _ (by show k ≠ R; omega), h.2.1, ?_⟩
 simp only [World.setCell, Array.getElem?_modify, if_true]
 rw [h.2.2]
 rfl
theorem Rg0.free {w : World} {R : Nat} {S : Src} {i e p : Nat} (h : Rg0 w R S i e p) (j : Nat) : w.frozen? ⟨R, j, none⟩ = false := by simp [World.frozen?, h.2.2, rgO]
theorem Moves.set {R : Nat} {w : World} (j : Nat) (v : Value) : Moves R w (w.setCell ⟨R, j, none⟩ v) :=
 ⟨rfl, rfl, rfl, by simp [World.setCell], fun k _ hr => Below.heap_setCell _ _ _ _ (by intro e; exact hr (by rw [e]))⟩
set_option maxHeartbeats 800000 in
theorem rplace (R : Nat) (S : Src) (i e p : Nat) (w : World) (ha : Rg0 w R S i e p) :
  Calls Tryz.prog 67 #[.pointer (some ⟨R, 0, none⟩)] w fun x w' => x = .returned (.int .i64 (peekT S.z (S.all.drop i)).place) ∧ Below w.heap.size w w' := by
 obtain ⟨c0, c1, c2, c3, c4⟩ := ha.cells
 obtain ⟨m1, m2⟩ := ha.len
 unfold Src.V at c0
 have hle := ha.2.1
 by_cases hi : i < S.all.length
 ·obtain ⟨g, t, hg, _, ⟨k0, k1, k2, k3⟩, _, hd⟩ := ha.tok hi
  have HD := Lib.hid hd
  rw [hg] at c0
  simp only [Option.map_some] at c0
  clear ha hd
  go_enter Tryz.func67, Tryz.ntmps67
  go_wp2_with fail
  go_quiet (fail)
  go_wp2_with fail
  go_quiet (fail)
  go_wp2
  go_ret
  exact ⟨by rw [HD.out]; rfl, below_drewN (below_drewN (Below.refl _ _) _) _⟩
 ·have HD : Hid (S.all.drop i = []) := List.drop_eq_nil_of_le (by omega)
  clear ha
  go_enter Tryz.func67, Tryz.ntmps67
  go_wp2_with fail
  go_quiet (fail)
  go_wp2
  go_ret
  exact ⟨by rw [HD.out]; rfl, below_drewN (Below.refl _ _) _⟩
def failR (z c : Nat) (σ : Res Unit) : Res Unit := σ.bind fun _ ts => failT z c ts
set_option maxHeartbeats 800000 in
theorem rfail (R : Nat) (S : Src) (σ : Res Unit) (c : Nat) (hc : c ≠ 0) (zc : Int) (hz : zc = c) (w : World) (ha : Rs w R S σ) :
  Calls Tryz.prog 123 #[.pointer (some ⟨R, 0, none⟩), .int .i64 zc] w fun x w' => x = .returned (.tuple #[]) ∧ Moves R w w' ∧ Rs w' R S (failR S.z c σ) := by
 subst hz
 cases σ with
 | ok u ts =>
  obtain ⟨i, rfl, ha⟩ := ha
  obtain ⟨c0, c1, c2, c3, c4⟩ := ha.cells
  have f2 := ha.free 2
  have a1 := ha.set2 c
  have mv1 := Moves.set (R := R) (w := w) 2 (.int .i64 (c : Int))
  have K := Lib.hid (rplace R S i c 0 _ a1)
  have A1 := Lib.hid a1
  have M1 := Lib.hid mv1
  have hsz : (w.setCell ⟨R, 2, none⟩ (.int .i64 (c : Int))).heap.size = w.heap.size := by simp [World.setCell]
  have HS := Lib.hid hsz
  clear a1 mv1 ha hsz c0 c1 c3 c4
  go_enter Tryz.func123, Tryz.ntmps123
  go_wp2_with fail
  generalize w.setCell ⟨R, 2, none⟩ (.int .i64 (c : Int)) = w1 at *
  (with_reducible refine K.out.mono ?_)
  clear K
  rintro x w2 ⟨rfl, hb⟩
  have a2 := A1.out.below hb (Nat.le_refl _)
  have f3 := a2.free 3
  obtain ⟨d0, d1, d2, d3, d4⟩ := a2.cells
  have HE : Hid (Rs (w2.setCell ⟨R, 3, none⟩ (.int .i64 ((peekT S.z (S.all.drop i)).place : Int))) R S (failR S.z c (.ok u (S.all.drop i)))) := ⟨hc, i, a2.set3 _⟩
  have HM : Hid (Moves R w (w2.setCell ⟨R, 3, none⟩ (.int .i64 ((peekT S.z (S.all.drop i)).place : Int)))) := (M1.out.below hb (Nat.le_refl _)).trans (Moves.set _ _)
  clear hb a2 d0 d1 d2 d4
  generalize (peekT S.z (S.all.drop i)).place = q at *
  go_wp2
  go_end0
  exact ⟨rfl, HM.out, HE.out⟩
 | bad c' p' =>
  obtain ⟨hne, i, ha⟩ := ha
  obtain ⟨c0, c1, c2, c3, c4⟩ := ha.cells
  have HA : Hid (Rs w R S (.bad c' p')) := ⟨hne, i, ha⟩
  have q1 : (((c' : Nat) : Int) == 0) = false := by rw [beq_eq_false_iff_ne]; omega
  clear ha hne
  go_enter Tryz.func123, Tryz.ntmps123
  go_wp2
  go_end0
  exact ⟨rfl, Moves.refl _ _, HA.out⟩
def isR (z : Nat) (s : List Nat) : Res Unit → Bool
 | .ok _ ts => seesT z [s] ts
 | .bad _ _ => false
set_option maxHeartbeats 1600000 in
theorem ris (R : Nat) (S : Src) (σ : Res Unit) (s : List Nat) (sv : ByteArray) (w : World) (ha : Rs w R S σ) (hs : sv = strN s) (hy : Byn s) :
  Calls Tryz.prog 70 #[.pointer (some ⟨R, 0, none⟩), .string sv] w fun x w' => x = .returned (.bool (isR S.z s σ)) ∧ Below w.heap.size w w' := by
 subst hs
 cases σ with
 | ok u ts =>
  obtain ⟨i, rfl, ha⟩ := ha
  obtain ⟨c0, c1, c2, c3, c4⟩ := ha.cells
  obtain ⟨m1, m2⟩ := ha.len
  unfold Src.V at c0
  have hle := ha.2.1
  by_cases hi : i < S.all.length
  ·obtain ⟨g, t, hg, _, ⟨k0, k1, k2, k3⟩, hyt, hd⟩ := ha.tok hi
   have HD : Hid (isR S.z s (.ok u (S.all.drop i)) = (decide (t.kind = 4) && decide (t.text = s))) := by
    show _ = _
    rw [hd]
    simp only [isR, seesT, isOne, peekT, List.contains, List.elem_cons, List.elem_nil, Bool.or_false]
    by_cases h : t.text = s
    ·simp [h]
     exact decide_eq_decide.2 Iff.rfl
    ·simp [h, beq_eq_false_iff_ne.2 h]
   have hq := strN_eq hyt hy
   rw [hg] at c0
   simp only [Option.map_some] at c0
   by_cases hk : t.kind = 4
   ·have qk : (((t.kind : Nat) : Int) == 4) = true := by rw [hk]; rfl
    rw [decide_eq_true hk] at HD
    by_cases ht : t.text = s
    ·rw [decide_eq_true ht] at HD hq
     clear ha hd hyt hy ht hk
     go_enter Tryz.func70, Tryz.ntmps70
     go_wp2_with fail
     go_quiet (fail)
     go_wp2
     go_ret
     exact ⟨by rw [HD.out]; rfl, below_drewN (Below.refl _ _) _⟩
    ·rw [decide_eq_false ht] at HD hq
     clear ha hd hyt hy ht hk
     go_enter Tryz.func70, Tryz.ntmps70
     go_wp2_with fail
     go_quiet (fail)
     go_wp2
     go_ret
     exact ⟨by rw [HD.out]; rfl, below_drewN (Below.refl _ _) _⟩
   ·have qk : (((t.kind : Nat) : Int) == 4) = false := by rw [beq_eq_false_iff_ne]; omega
    rw [decide_eq_false hk] at HD
    clear ha hd hyt hy hk hq
    go_enter Tryz.func70, Tryz.ntmps70
    go_wp2_with fail
    go_quiet (fail)
    go_wp2
    go_ret
    exact ⟨by rw [HD.out]; rfl, below_drewN (Below.refl _ _) _⟩
  ·have HD : Hid (isR S.z s (.ok u (S.all.drop i)) = false) := by
    show _ = _
    rw [List.drop_eq_nil_of_le (by omega)]
    rfl
   clear ha hy
   go_enter Tryz.func70, Tryz.ntmps70
   go_wp2_with fail
   go_quiet (fail)
   go_wp2
   go_ret
   exact ⟨by rw [HD.out]; rfl, below_drewN (Below.refl _ _) _⟩
 | bad c' p' =>
  obtain ⟨hne, i, ha⟩ := ha
  obtain ⟨c0, c1, c2, c3, c4⟩ := ha.cells
  have q1 : (((c' : Nat) : Int) == 0) = false := by rw [beq_eq_false_iff_ne]; omega
  clear ha hne hy
  go_enter Tryz.func70, Tryz.ntmps70
  go_wp2_with fail
  go_quiet (fail)
  go_wp2
  go_ret
  exact ⟨rfl, below_drewN (Below.refl _ _) _⟩
end
section
open Go.RowKit
set_option maxRecDepth 100000
set_option linter.unusedSimpArgs false
set_option linter.unusedVariables false
def passR (z : Nat) (s : List Nat) (σ : Res Unit) : Res Unit := σ.bind fun _ ts => if seesT z [s] ts then .ok () ts.tail else .ok () ts
theorem Rs.step {w : World} {R : Nat} {S : Src} {u : Unit} {ts : List Tok} (h : Rs w R S (.ok u ts)) {k : Nat} (hk : (peekT S.z ts).kind = k) (h0 : 0 < k) :
  ∃ i : Nat, w.cell? ⟨R, 1, none⟩ = some (.int .i64 i) ∧ w.frozen? ⟨R, 1, none⟩ = false ∧ i < 2 ^ 63 - 1 ∧ Rs (w.setCell ⟨R, 1, none⟩ (.int .i64 ((i : Int) + 1))) R S (.ok () ts.tail) ∧ Moves R w (w.setCell ⟨R, 1, none⟩ (.int .i64 ((i : Int) + 1))) := by
 obtain ⟨i, rfl, h⟩ := h
 have hlt : i < S.all.length := by
  rcases Nat.lt_or_ge i S.all.length with h1 | h1
  ·exact h1
  ·rw [List.drop_eq_nil_of_le h1] at hk
   simp [peekT, noTok] at hk
   omega
 have hm := h.len
 exact ⟨i, h.cells.2.1, h.free 1, by omega, ⟨i + 1, by rw [List.tail_drop], h.set1 hlt⟩, Moves.set _ _⟩
set_option maxHeartbeats 800000 in
theorem rtake (R : Nat) (S : Src) (σ : Res Unit) (s : List Nat) (sv : ByteArray) (w : World) (ha : Rs w R S σ) (hs : sv = strN s) (hy : Byn s) :
  Calls Tryz.prog 72 #[.pointer (some ⟨R, 0, none⟩), .string sv] w fun x w' => x = .returned (.bool (isR S.z s σ)) ∧ Moves R w w' ∧ Rs w' R S (passR S.z s σ) := by
 have K := Lib.hid (ris R S σ s sv w ha hs hy)
 have HA := Lib.hid ha
 cases hb : isR S.z s σ with
 | false =>
  have HE : Hid (passR S.z s σ = σ) := by
   cases σ with
   | ok u ts => show (if seesT S.z [s] ts then _ else _) = _; rw [show seesT S.z [s] ts = false from hb]; rfl
   | bad c p => rfl
  rw [hb] at K
  clear ha hs hy hb
  go_enter Tryz.func72, Tryz.ntmps72
  go_wp2_with fail
  (with_reducible refine K.out.mono ?_)
  rintro x w1 ⟨rfl, h1⟩
  have H1 := Lib.hid h1
  clear h1
  go_wp2
  go_ret
  exact ⟨rfl, Moves.of_below H1.out (Nat.le_refl _), by rw [HE.out]; exact HA.out.below H1.out (Nat.le_refl _)⟩
 | true =>
  obtain ⟨u, ts, rfl⟩ : ∃ u ts, σ = .ok u ts := by
   cases σ with
   | ok u ts => exact ⟨u, ts, rfl⟩
   | bad c p => cases hb
  have HE : Hid (passR S.z s (.ok u ts) = .ok () ts.tail) := by show (if seesT S.z [s] ts then _ else _) = _; rw [show seesT S.z [s] ts = true from hb]; rfl
  have HK : Hid ((peekT S.z ts).kind = 4) := seesT_kind hb
  rw [hb] at K
  clear ha hs hy hb
  go_enter Tryz.func72, Tryz.ntmps72
  go_wp2_with fail
  (with_reducible refine K.out.mono ?_)
  rintro x w1 ⟨rfl, h1⟩
  obtain ⟨i, c1, f1, hi, h4, h5⟩ := (HA.out.below h1 (Nat.le_refl _)).step HK.out (by omega)
  have H1 := Lib.hid h1
  have H4 := Lib.hid h4
  have H5 := Lib.hid h5
  clear h1 h4 h5
  go_wp2
  go_ret
  exact ⟨rfl, (Moves.of_below H1.out (Nat.le_refl _)).trans H5.out, by rw [HE.out]; exact H4.out⟩
def mustR (z : Nat) (s : List Nat) (σ : Res Unit) : Res Unit := σ.bind fun _ ts => wantT z s ts
theorem must_true {z : Nat} {s : List Nat} {σ : Res Unit} (h : isR z s σ = true) : mustR z s σ = passR z s σ := by
 cases σ with
 | ok u ts => show (if seesT z [s] ts then _ else _) = (if seesT z [s] ts then _ else _); rw [show seesT z [s] ts = true from h]; rfl
 | bad c p => rfl
theorem must_false {z : Nat} {s : List Nat} {σ : Res Unit} (h : isR z s σ = false) : mustR z s σ = failR z 41 (passR z s σ) := by
 cases σ with
 | ok u ts => show (if seesT z [s] ts then _ else _) = Res.bind (if seesT z [s] ts then _ else _) _; rw [show seesT z [s] ts = false from h]; rfl
 | bad c p => rfl
set_option maxHeartbeats 800000 in
theorem rmust (R : Nat) (S : Src) (σ : Res Unit) (s : List Nat) (sv : ByteArray) (w : World) (ha : Rs w R S σ) (hs : sv = strN s) (hy : Byn s) :
  Calls Tryz.prog 68 #[.pointer (some ⟨R, 0, none⟩), .string sv] w fun x w' => x = .returned (.tuple #[]) ∧ Moves R w w' ∧ Rs w' R S (mustR S.z s σ) := by
 have K := Lib.hid (rtake R S σ s sv w ha hs hy)
 clear ha hs hy
 cases hb : isR S.z s σ with
 | true =>
  have HE := Lib.hid (must_true hb)
  rw [hb] at K
  clear hb
  go_enter Tryz.func68, Tryz.ntmps68
  go_wp2_with fail
  (with_reducible refine K.out.mono ?_)
  rintro x w1 ⟨rfl, h1, h2⟩
  have H1 := Lib.hid h1
  have H2 := Lib.hid h2
  clear h1 h2
  go_wp2
  go_end0
  exact ⟨rfl, H1.out, by rw [HE.out]; exact H2.out⟩
 | false =>
  have HE := Lib.hid (must_false hb)
  rw [hb] at K
  clear hb
  go_enter Tryz.func68, Tryz.ntmps68
  go_wp2_with fail
  (with_reducible refine K.out.mono ?_)
  rintro x w1 ⟨rfl, h1, h2⟩
  have K2 := Lib.hid (rfail R S _ 41 (by omega) 41 rfl w1 h2)
  have H1 := Lib.hid h1
  clear h1 h2 K
  go_wp2_with fail
  (with_reducible refine K2.out.mono ?_)
  rintro x w2 ⟨rfl, h1, h2⟩
  have H3 := Lib.hid h1
  have H4 := Lib.hid h2
  clear h1 h2 K2
  go_wp2
  go_end0
  exact ⟨rfl, H1.out.trans H3.out, by rw [HE.out]; exact H4.out⟩
def deepR (z d : Nat) (σ : Res Unit) : Res Unit := if d ≤ 32 then σ else failR z 42 σ
theorem rdeep (R : Nat) (S : Src) (σ : Res Unit) (d : Nat) (w : World) (ha : Rs w R S σ) :
  Calls Tryz.prog 124 #[.pointer (some ⟨R, 0, none⟩), .int .i64 d] w fun x w' => x = .returned (.tuple #[]) ∧ Moves R w w' ∧ Rs w' R S (deepR S.z d σ) := by
 by_cases hd : d ≤ 32
 ·have HE : Hid (Rs w R S (deepR S.z d σ)) := by show Rs _ _ _ _; unfold deepR; rw [if_pos hd]; exact ha
  clear ha
  go_enter Tryz.func124, Tryz.ntmps124
  go_wp2
  go_end0
  exact ⟨rfl, Moves.refl _ _, HE.out⟩
 ·have K := Lib.hid (rfail R S σ 42 (by omega) 42 rfl w ha)
  have HE : Hid (deepR S.z d σ = failR S.z 42 σ) := if_neg hd
  clear ha
  go_enter Tryz.func124, Tryz.ntmps124
  go_wp2_with fail
  (with_reducible refine K.out.mono ?_)
  rintro x w2 ⟨rfl, h1, h2⟩
  have H3 := Lib.hid h1
  have H4 := Lib.hid h2
  clear h1 h2 K
  go_wp2
  go_end0
  exact ⟨rfl, H3.out, by rw [HE.out]; exact H4.out⟩
end
section
open Go.RowKit
set_option maxRecDepth 100000
set_option linter.unusedSimpArgs false
set_option linter.unusedVariables false
def Res.unit {α : Type} : Res α → Res Unit
 | .ok _ r => .ok () r
 | .bad c p => .bad c p
def RGot {α : Type} (R : Nat) (S : Src) (Q : World → α → Value → Prop) (w : World) (m : Res α) (e : Ending) (w' : World) : Prop :=
 Moves R w w' ∧ (∃ v x, e = .returned x ∧ Q w' v x ∧ ∀ a r, m = .ok a r → v = a) ∧ Rs w' R S m.unit
def noT : Tok := ⟨0, [], 0, 0⟩
theorem Rs.other {w w' : World} {R g : Nat} {S : Src} {σ : Res Unit} (h : Rs w R S σ) (hg : R < g) (ho : ∀ k, k ≠ g → w'.heap[k]? = w.heap[k]?) : Rs w' R S σ := by
 have key : ∀ {i e p}, Rg0 w R S i e p → Rg0 w' R S i e p := fun h => ⟨h.1.of fun k hk => ho k (by omega), h.2.1, by rw [ho R (by omega)]; exact h.2.2⟩
 cases σ with
 | ok u ts => obtain ⟨i, e, h⟩ := h; exact ⟨i, e, key h⟩
 | bad c p => obtain ⟨e, i, h⟩ := h; exact ⟨e, i, key h⟩
set_option maxHeartbeats 1600000 in
theorem rkind (R : Nat) (S : Src) (σ : Res Unit) (k : Nat) (hk : 0 < k) (w : World) (ha : Rs w R S σ) :
  Calls Tryz.prog 69 #[.pointer (some ⟨R, 0, none⟩), .int .i64 k] w (RGot R S QT w (σ.bind fun _ ts => takeT S.z k ts)) := by
 have HL := Lib.hid ha.lt
 have b0 := below_alloc w (.cells #[.int .i64 0, .string ⟨#[]⟩, .int .i64 0, .int .i64 0] 134)
 have hn := heap_alloc_new w (.cells #[.int .i64 0, .string ⟨#[]⟩, .int .i64 0, .int .i64 0] 134)
 have HR : Hid (∀ n, Rs ((w.alloc (.cells #[.int .i64 0, .string ⟨#[]⟩, .int .i64 0, .int .i64 0] 134)).drewN n) R S σ ∧ Below w.heap.size w ((w.alloc (.cells #[.int .i64 0, .string ⟨#[]⟩, .int .i64 0, .int .i64 0] 134)).drewN n) ∧ ((w.alloc (.cells #[.int .i64 0, .string ⟨#[]⟩, .int .i64 0, .int .i64 0] 134)).drewN n).heap[w.heap.size]? = some (.cells #[.int .i64 0, .string ⟨#[]⟩, .int .i64 0, .int .i64 0] 134 (0, 0))) := fun n =>
  ⟨(ha.below b0 (Nat.le_refl _)).below (below_drewN (Below.refl (w.alloc (.cells #[.int .i64 0, .string ⟨#[]⟩, .int .i64 0, .int .i64 0] 134)).heap.size _) n) (Nat.le_refl _), below_drewN b0 n, hn⟩
 have ha0 := ha.below b0 (Nat.le_refl _)
 clear b0 hn ha
 cases σ with
 | ok u ts =>
  obtain ⟨i, rfl, ha⟩ := ha0
  obtain ⟨c0, c1, c2, c3, c4⟩ := ha.cells
  obtain ⟨m1, m2⟩ := ha.len
  unfold Src.V at c0
  have hle := ha.2.1
  by_cases hi : i < S.all.length
  ·obtain ⟨g, t, hg, _, ⟨k0, k1, k2, k3⟩, hyt, hd⟩ := ha.tok hi
   have HD := Lib.hid hd
   rw [hg] at c0
   simp only [Option.map_some] at c0
   by_cases hkk : t.kind = k
   ·have qk : (((t.kind : Nat) : Int) != (k : Int)) = false := by rw [hkk]; simp
    have HE : Hid ((peekT S.z (S.all.drop i)).kind = k) := by show _ = _; rw [hd]; exact hkk
    have HT : Hid (takeT S.z k (S.all.drop i) = .ok t (S.all.drop i).tail) := by show _ = _; unfold takeT; rw [if_pos HE.out, hd]; rfl
    have HF : Hid (S.g = some g ∧ S.all[i]? = some t) := ⟨hg, by rw [← List.head?_drop, hd]; rfl⟩
    have HA : Hid (∀ n, Rg0 ((w.alloc (.cells #[.int .i64 0, .string ⟨#[]⟩, .int .i64 0, .int .i64 0] 134)).drewN n) R S i 0 0) := fun n => ha
    clear ha hd hyt hkk hg
    go_enter Tryz.func69, Tryz.ntmps69
    go_wp2_with fail
    go_quiet (fail)
    have h1 := (HR.out nq).2
    have r1 := HA.out nq
    clear c0 c1 c2 c3 c4 k0 k1 k2 k3 qk
    generalize (w.alloc (.cells #[.int .i64 0, .string ⟨#[]⟩, .int .i64 0, .int .i64 0] 134)).drewN nq = w1 at *
    obtain ⟨c0, c1, _⟩ := r1.cells
    have f1 := r1.free 1
    have r2 := r1.set1 hi
    have HM : Hid (Moves R w (w1.setCell ⟨R, 1, none⟩ (.int .i64 ((i : Int) + 1)))) := (Moves.of_below h1.1 (Nat.le_refl _)).trans (Moves.set _ _)
    have n2 : (w1.setCell ⟨R, 1, none⟩ (.int .i64 ((i : Int) + 1))).heap[w.heap.size]? = some (.cells #[.int .i64 0, .string ⟨#[]⟩, .int .i64 0, .int .i64 0] 134 (0, 0)) := by
     rw [Below.heap_setCell _ _ _ _ (by show w.heap.size ≠ R; have := HL.out; omega)]
     exact h1.2
    have N2 := Lib.hid n2
    have R2 := Lib.hid r2
    clear h1 r1 r2 n2 c0 HR HA
    go_upto_region 5 with fail
    generalize w1.setCell ⟨R, 1, none⟩ (.int .i64 ((i : Int) + 1)) = w2 at *
    obtain ⟨c0, c1, _⟩ := R2.out.cells
    obtain ⟨k0, k1, k2, k3⟩ := (R2.out.1.2.2.2.2 g HF.out.1).2 i t HF.out.2
    unfold Src.V at c0
    rw [HF.out.1] at c0
    simp only [Option.map_some] at c0
    rw [show ((i + 1 : Nat) : Int) = (i : Int) + 1 by omega] at c1
    have hne : w.heap.size ≠ R := by have := HL.out; omega
    have HG : Hid (w2.drew.there w.heap.size 0 4) := there_cells (cs := [.int .i64 0, .string ⟨#[]⟩, .int .i64 0, .int .i64 0]) (T := 134) N2.out rfl
    have zc : ∀ j v, (#[.int .i64 0, .string ⟨#[]⟩, .int .i64 0, .int .i64 0] : Array Value)[j]? = some v → w2.cell? ⟨w.heap.size, j, none⟩ = some v := fun j v hv => by rw [cell_of_row _ _ _ _ _ _ N2.out]; exact hv
    have z0 := zc 0 _ rfl
    have z1 := zc 1 _ rfl
    have z2 := zc 2 _ rfl
    have z3 := zc 3 _ rfl
    have zf : ∀ j, w2.frozen? ⟨w.heap.size, j, none⟩ = false := fun j => by simp [World.frozen?, N2.out]
    have y0 := zf 0
    have y1 := zf 1
    have y2 := zf 2
    have y3 := zf 3
    clear zc zf
    go_region
    go_wp2
    refine bodyPost_ret (ret_cell (cs := [_, _, _, _]) Tryz.results69 Tryz.underlying134 rfl info77s _ _ w.heap.size rfl (World.rangeAt_setCells_same _ w.heap.size 0 [_, _, _, _] HG.out)) rfl ?_
    have bc := below_cells w.heap.size 0 [.int .i64 t.kind, .string (strN t.text), .int .i64 t.num, .int .i64 t.place]
    exact ⟨HM.out.low ((Below.refl w.heap.size w2).drew.trans (bc _).1) (Nat.le_refl _), ⟨t, _, rfl, rfl, fun a r h => by rw [show (Res.bind (.ok u (S.all.drop i)) fun _ ts => takeT S.z k ts) = takeT S.z k (S.all.drop i) from rfl, HT.out] at h; injection h⟩, by
     rw [show (Res.bind (.ok u (S.all.drop i)) fun _ ts => takeT S.z k ts) = takeT S.z k (S.all.drop i) from rfl, HT.out]
     exact Rs.other (w := w2) (σ := .ok () _) ⟨i + 1, by rw [List.tail_drop], R2.out⟩ HL.out (fun k hk => (bc _).2.1 k hk)⟩
   ·have qk : (((t.kind : Nat) : Int) != (k : Int)) = true := by rw [bne_iff_ne]; omega
    have HT : Hid (takeT S.z k (S.all.drop i) = failT S.z 41 (S.all.drop i)) := if_neg (by rw [hd]; exact hkk)
    clear ha hd hyt hkk hg
    go_enter Tryz.func69, Tryz.ntmps69
    go_wp2_with fail
    go_quiet (fail)
    have h1 := HR.out nq
    go_wp2_with fail
    generalize (w.alloc (.cells #[.int .i64 0, .string ⟨#[]⟩, .int .i64 0, .int .i64 0] 134)).drewN nq = w1 at *
    refine (rfail R S _ 41 (by omega) 41 rfl _ h1.1).mono ?_
    rintro x w2 ⟨rfl, m2, r2⟩
    have n2 : w2.heap[w.heap.size]? = some (.cells #[.int .i64 0, .string ⟨#[]⟩, .int .i64 0, .int .i64 0] 134 (0, 0)) := (m2.block _ (lt_of_block h1.2.2) (by intro e; injection e with e; have := HL.out; omega)).trans h1.2.2
    have hth : Hid (w2.there w.heap.size 0 4) := there_cells (cs := [.int .i64 0, .string ⟨#[]⟩, .int .i64 0, .int .i64 0]) (T := 134) n2 rfl
    have HM : Hid (Moves R w w2 ∧ Rs w2 R S (failR S.z 41 _)) := ⟨(Moves.of_below h1.2.1 (Nat.le_refl _)).trans m2, r2⟩
    clear h1 m2 r2 n2
    go_wp2_with (refine wpList_storeN info77s rfl (.tmp 4) (.tmp 39) rfl rfl w.heap.size rfl [_, _, _, _] rfl rfl hth.out (by simp [Value.oneCell']) ?_; intro w3 g1 g2 g3 g4 g5)
    refine bodyPost_ret (ret_cell (cs := [_, _, _, _]) Tryz.results69 Tryz.underlying134 rfl info77s _ _ w.heap.size rfl g1) rfl ?_
    exact ⟨HM.out.1.low g3 (Nat.le_refl _), ⟨noT, _, rfl, rfl, fun a r h => by rw [show (Res.bind (.ok u (S.all.drop i)) fun _ ts => takeT S.z k ts) = takeT S.z k (S.all.drop i) from rfl, HT.out] at h; cases h⟩, by rw [show (Res.bind (.ok u (S.all.drop i)) fun _ ts => takeT S.z k ts) = takeT S.z k (S.all.drop i) from rfl, HT.out]; exact HM.out.2.other HL.out g4⟩
  ·have HT : Hid (takeT S.z k (S.all.drop i) = failT S.z 41 (S.all.drop i)) := if_neg (by rw [List.drop_eq_nil_of_le (by omega)]; show ¬ (0 = k); omega)
   clear ha
   go_enter Tryz.func69, Tryz.ntmps69
   go_wp2_with fail
   go_quiet (fail)
   have h1 := HR.out nq
   go_wp2_with fail
   generalize (w.alloc (.cells #[.int .i64 0, .string ⟨#[]⟩, .int .i64 0, .int .i64 0] 134)).drewN nq = w1 at *
   refine (rfail R S _ 41 (by omega) 41 rfl _ h1.1).mono ?_
   rintro x w2 ⟨rfl, m2, r2⟩
   have n2 : w2.heap[w.heap.size]? = some (.cells #[.int .i64 0, .string ⟨#[]⟩, .int .i64 0, .int .i64 0] 134 (0, 0)) := (m2.block _ (lt_of_block h1.2.2) (by intro e; injection e with e; have := HL.out; omega)).trans h1.2.2
   have hth : Hid (w2.there w.heap.size 0 4) := there_cells (cs := [.int .i64 0, .string ⟨#[]⟩, .int .i64 0, .int .i64 0]) (T := 134) n2 rfl
   have HM : Hid (Moves R w w2 ∧ Rs w2 R S (failR S.z 41 _)) := ⟨(Moves.of_below h1.2.1 (Nat.le_refl _)).trans m2, r2⟩
   clear h1 m2 r2 n2
   go_wp2_with (refine wpList_storeN info77s rfl (.tmp 4) (.tmp 39) rfl rfl w.heap.size rfl [_, _, _, _] rfl rfl hth.out (by simp [Value.oneCell']) ?_; intro w3 g1 g2 g3 g4 g5)
   refine bodyPost_ret (ret_cell (cs := [_, _, _, _]) Tryz.results69 Tryz.underlying134 rfl info77s _ _ w.heap.size rfl g1) rfl ?_
   exact ⟨HM.out.1.low g3 (Nat.le_refl _), ⟨noT, _, rfl, rfl, fun a r h => by rw [show (Res.bind (.ok u (S.all.drop i)) fun _ ts => takeT S.z k ts) = takeT S.z k (S.all.drop i) from rfl, HT.out] at h; cases h⟩, by rw [show (Res.bind (.ok u (S.all.drop i)) fun _ ts => takeT S.z k ts) = takeT S.z k (S.all.drop i) from rfl, HT.out]; exact HM.out.2.other HL.out g4⟩
 | bad c' p' =>
  obtain ⟨hne, i, ha⟩ := ha0
  obtain ⟨c0, c1, c2, c3, c4⟩ := ha.cells
  have q1 : (((c' : Nat) : Int) != 0) = true := by rw [bne_iff_ne]; omega
  clear ha hne
  go_enter Tryz.func69, Tryz.ntmps69
  go_wp2_with fail
  go_quiet (fail)
  have h1 := HR.out nq
  go_wp2_with fail
  generalize (w.alloc (.cells #[.int .i64 0, .string ⟨#[]⟩, .int .i64 0, .int .i64 0] 134)).drewN nq = w1 at *
  refine (rfail R S _ 41 (by omega) 41 rfl _ h1.1).mono ?_
  rintro x w2 ⟨rfl, m2, r2⟩
  have n2 : w2.heap[w.heap.size]? = some (.cells #[.int .i64 0, .string ⟨#[]⟩, .int .i64 0, .int .i64 0] 134 (0, 0)) := (m2.block _ (lt_of_block h1.2.2) (by intro e; injection e with e; have := HL.out; omega)).trans h1.2.2
  have hth : Hid (w2.there w.heap.size 0 4) := there_cells (cs := [.int .i64 0, .string ⟨#[]⟩, .int .i64 0, .int .i64 0]) (T := 134) n2 rfl
  have HM : Hid (Moves R w w2 ∧ Rs w2 R S (failR S.z 41 _)) := ⟨(Moves.of_below h1.2.1 (Nat.le_refl _)).trans m2, r2⟩
  clear h1 m2 r2 n2
  go_wp2_with (refine wpList_storeN info77s rfl (.tmp 4) (.tmp 39) rfl rfl w.heap.size rfl [_, _, _, _] rfl rfl hth.out (by simp [Value.oneCell']) ?_; intro w3 g1 g2 g3 g4 g5)
  refine bodyPost_ret (ret_cell (cs := [_, _, _, _]) Tryz.results69 Tryz.underlying134 rfl info77s _ _ w.heap.size rfl g1) rfl ?_
  exact ⟨HM.out.1.low g3 (Nat.le_refl _), ⟨noT, _, rfl, rfl, fun a r h => by cases h⟩, HM.out.2.other HL.out g4⟩
end
section
open Go.RowKit
set_option maxRecDepth 100000
set_option linter.unusedSimpArgs false
set_option linter.unusedVariables false
def tyN : List (List Nat) := [[105, 110, 116], [98, 111, 111, 108], [98, 121, 116, 101, 115]]
def typR (z : Nat) (σ : Res Unit) : Res Nat := σ.bind fun _ ts => typeP z ts
def Nots (z : Nat) (ss : List (List Nat)) (σ : Res Unit) (k : Nat) : Prop := ∀ j s, j < k → ss[j]? = some s → isR z s σ = false
theorem Nots.zero (z : Nat) (ss : List (List Nat)) (σ : Res Unit) : Nots z ss σ 0 := fun j s h => absurd h (Nat.not_lt_zero _)
theorem Nots.succ {z : Nat} {ss : List (List Nat)} {σ : Res Unit} {k : Nat} {s : List Nat} (h : Nots z ss σ k) (hs : ss[k]? = some s) (hn : isR z s σ = false) : Nots z ss σ (k + 1) := fun j t hj ht => by
 by_cases e : j = k
 ·subst e
  rw [hs] at ht
  injection ht with ht
  rw [← ht]
  exact hn
 ·exact h j t (by omega) ht
theorem pass_false {z : Nat} {s : List Nat} {σ : Res Unit} (h : isR z s σ = false) : passR z s σ = σ := by
 cases σ with
 | ok u ts => show (if seesT z [s] ts then _ else _) = _; rw [show seesT z [s] ts = false from h]; rfl
 | bad c p => rfl
theorem pass_true {z : Nat} {s : List Nat} {σ : Res Unit} (h : isR z s σ = true) : ∃ u ts, σ = .ok u ts ∧ seesT z [s] ts = true ∧ passR z s σ = .ok () ts.tail := by
 cases σ with
 | ok u ts => exact ⟨u, ts, rfl, h, by show (if seesT z [s] ts then _ else _) = _; rw [show seesT z [s] ts = true from h]; rfl⟩
 | bad c p => cases h
theorem typ_yes {z k : Nat} {σ : Res Unit} {s : List Nat} (hs : tyN[k]? = some s) (h : isR z s σ = true) (hb : Nots z tyN σ k) :
  (∀ a r, typR z σ = .ok a r → k + 1 = a) ∧ (typR z σ).unit = passR z s σ := by
 obtain ⟨u, ts, rfl, h1, h2⟩ := pass_true h
 rw [h2]
 have key : typR z (.ok u ts) = .ok (k + 1) ts.tail := by
  show typeP z ts = _
  rcases k with _ | _ | _ | k
  ·simp [tyN] at hs
   subst hs
   unfold typeP
   rw [if_pos h1]
  ·simp [tyN] at hs
   subst hs
   have g0 : seesT z [[105, 110, 116]] ts = false := hb 0 _ (by omega) rfl
   unfold typeP
   rw [if_neg (by simp [g0]), if_pos h1]
  ·simp [tyN] at hs
   subst hs
   have g0 : seesT z [[105, 110, 116]] ts = false := hb 0 _ (by omega) rfl
   have g1 : seesT z [[98, 111, 111, 108]] ts = false := hb 1 _ (by omega) rfl
   unfold typeP wantT
   rw [if_neg (by simp [g0]), if_neg (by simp [g1]), if_pos h1]
   rfl
  ·simp [tyN] at hs
 rw [key]
 exact ⟨fun a r e => (by injection e), rfl⟩
theorem typ_no {z : Nat} {σ : Res Unit} (hb : Nots z tyN σ 3) : (∀ a r, typR z σ = .ok a r → 0 = a) ∧ (typR z σ).unit = failR z 41 σ := by
 cases σ with
 | bad c p => exact ⟨fun a r e => (by cases e), rfl⟩
 | ok u ts =>
  have g0 : seesT z [[105, 110, 116]] ts = false := hb 0 _ (by omega) rfl
  have g1 : seesT z [[98, 111, 111, 108]] ts = false := hb 1 _ (by omega) rfl
  have g2 : seesT z [[98, 121, 116, 101, 115]] ts = false := hb 2 _ (by omega) rfl
  have key : typR z (.ok u ts) = failT z 41 ts := by
   show typeP z ts = _
   unfold typeP wantT
   rw [if_neg (by simp [g0]), if_neg (by simp [g1]), if_neg (by simp [g2])]
   rfl
  rw [key]
  exact ⟨fun a r e => (by cases e), rfl⟩
theorem tyN_byn : ∀ s ∈ tyN, Byn s := by unfold tyN Byn; decide
def RowAt (w : World) (R B : Nat) (ad : Addr) (ss : List (List Nat)) : Prop := ad.block ≠ R ∧ ad.block < B ∧ ∀ k s, ss[k]? = some s → w.cell? (ad.add k) = some (.string (strN s))
theorem RowAt.moves {w w' : World} {R B : Nat} {ad : Addr} {ss : List (List Nat)} (h : RowAt w R B ad ss) (hm : Moves R w w') (hB : B ≤ w.heap.size) : RowAt w' R B ad ss :=
 ⟨h.1, h.2.1, fun k s hs => by rw [hm.cell (by rw [addr_block]; exact Nat.lt_of_lt_of_le h.2.1 hB) (by rw [addr_block]; exact h.1)]; exact h.2.2 k s hs⟩
theorem RowAt.other {w w' : World} {R B g : Nat} {ad : Addr} {ss : List (List Nat)} (h : RowAt w R B ad ss) (ho : ∀ k, k ≠ g → w'.heap[k]? = w.heap[k]?) (hB : B ≤ g) : RowAt w' R B ad ss :=
 ⟨h.1, h.2.1, fun k s hs => by rw [World.cell?_of_block (ho _ (by rw [addr_block]; have := h.2.1; omega))]; exact h.2.2 k s hs⟩
theorem RowAt.new (w : World) (R : Nat) (ss : List (List Nat)) (cs : Array Value) (hcs : cs = (ss.map strV).toArray) (hR : R < w.heap.size) (B : Nat) (hB : w.heap.size < B) : RowAt (w.alloc (.cells cs 9)) R B ⟨w.heap.size, 0, none⟩ ss := by
 subst hcs
 refine ⟨by show w.heap.size ≠ R; omega, hB, fun k s hs => ?_⟩
 obtain ⟨ad, e, _, h⟩ := (lies_strs w ss).2 k (strV s) (by simp [hs])
 injection e with e
 subst e
 exact h
set_option maxHeartbeats 1600000 in
theorem rtyp (R : Nat) (S : Src) (σ : Res Unit) (w : World) (ha : Rs w R S σ) :
  Calls Tryz.prog 71 #[.pointer (some ⟨R, 0, none⟩)] w (RGot R S QN w (typR S.z σ)) := by
 have hR := ha.lt
 have b0 := below_alloc w (.cells #[.string ⟨#[105, 110, 116]⟩, .string ⟨#[98, 111, 111, 108]⟩, .string ⟨#[98, 121, 116, 101, 115]⟩] 9)
 have HB := Lib.hid (RowAt.new w R tyN #[.string ⟨#[105, 110, 116]⟩, .string ⟨#[98, 111, 111, 108]⟩, .string ⟨#[98, 121, 116, 101, 115]⟩] (by kernel_rfl) hR (w.heap.size + 1) (Nat.lt_succ_self _))
 have HA := Lib.hid (ha.below b0 (Nat.le_refl _))
 have HM := Lib.hid (Moves.of_below (R := R) b0 (Nat.le_refl _))
 have HI : Hid (Nots S.z tyN σ 3 → (∀ a r, typR S.z σ = .ok a r → 0 = a) ∧ (typR S.z σ).unit = failR S.z 41 σ) := typ_no
 have HY : Hid (∀ k s, tyN[k]? = some s → isR S.z s σ = true → Nots S.z tyN σ k → (∀ a r, typR S.z σ = .ok a r → k + 1 = a) ∧ (typR S.z σ).unit = passR S.z s σ) := fun k s a b c => typ_yes a b c
 have HZ : Hid (w.heap.size + 1 ≤ (w.alloc (.cells #[.string ⟨#[105, 110, 116]⟩, .string ⟨#[98, 111, 111, 108]⟩, .string ⟨#[98, 121, 116, 101, 115]⟩] 9)).heap.size) := by show _ ≤ _; simp
 clear b0 ha hR
 generalize typR S.z σ = m at *
 go_enter Tryz.func71, Tryz.ntmps71
 go_wp2_with fail
 generalize w.alloc (.cells #[.string ⟨#[105, 110, 116]⟩, .string ⟨#[98, 111, 111, 108]⟩, .string ⟨#[98, 121, 116, 101, 115]⟩] 9) = w1 at *
 generalize (Addr.mk w.heap.size 0 none) = ad at *
 go_loopw [4] (fun i wr => ∃ k : Nat, k ≤ 3 ∧ i = .int .i64 k ∧ Hid (Rs wr R S σ ∧ Moves R w wr ∧ w.heap.size + 1 ≤ wr.heap.size ∧ RowAt wr R (w.heap.size + 1) ad tyN ∧ Nots S.z tyN σ k)) (fun i _ => 3 - (intOf i).toNat)
 case atStart => exact ⟨0, Nat.zero_le _, rfl, HA.out, HM.out, HZ.out, HB.out, Nots.zero _ _ _⟩
 case round =>
  obtain ⟨k, hk, rfl, HR⟩ := hrel
  by_cases hlt : k < 3
  ·have hg : tyN[k]? = some tyN[k] := List.getElem?_eq_getElem hlt
   generalize tyN[k] = s at hg
   have c1 := HR.out.2.2.2.1.2.2 k s hg
   have K := Lib.hid (rtake R S σ s _ wr HR.out.1 rfl (tyN_byn s (List.mem_of_getElem? hg)))
   have HG := Lib.hid hg
   clear hg
   cases hb : isR S.z s σ with
   | true =>
    have HE := Lib.hid (HY.out k s HG.out hb HR.out.2.2.2.2)
    rw [hb] at K
    clear hb
    go_wp2_with fail
    (with_reducible refine K.out.mono ?_)
    rintro x w2 ⟨rfl, h1, h2⟩
    have HF : Hid (Moves R w w2 ∧ Rs w2 R S (passR S.z s σ)) := ⟨HR.out.2.1.trans h1, h2⟩
    clear h1 h2 K
    go_wp2
    go_ret
    exact ⟨HF.out.1, ⟨k + 1, _, rfl, by show _ = Value.int .i64 _; go_num, HE.out.1⟩, by rw [HE.out.2]; exact HF.out.2⟩
   | false =>
    have HE : Hid (Nots S.z tyN σ (k + 1) ∧ passR S.z s σ = σ) := ⟨HR.out.2.2.2.2.succ HG.out hb, pass_false hb⟩
    rw [hb] at K
    clear hb
    go_wp2_with fail
    (with_reducible refine K.out.mono ?_)
    rintro x w2 ⟨rfl, h1, h2⟩
    have HF : Hid (Moves R w w2 ∧ Rs w2 R S σ ∧ RowAt w2 R (w.heap.size + 1) ad tyN ∧ w.heap.size + 1 ≤ w2.heap.size) := ⟨HR.out.2.1.trans h1, by rw [HE.out.2] at h2; exact h2, HR.out.2.2.2.1.moves h1 HR.out.2.2.1, Nat.le_trans HR.out.2.2.1 h1.size⟩
    clear h1 h2 K
    go_wp2
    go_round
    case rel => exact ⟨k + 1, by omega, by go_num, HF.out.2.1, HF.out.1, HF.out.2.2.2, HF.out.2.2.1, HE.out.1⟩
    case measure => simp [intOf]; omega
  ·obtain rfl : k = 3 := by omega
   have HE := Lib.hid (HI.out HR.out.2.2.2.2)
   have K := Lib.hid (rfail R S σ 41 (by omega) 41 rfl wr HR.out.1)
   go_wp2_with fail
   (with_reducible refine K.out.mono ?_)
   rintro x w2 ⟨rfl, h1, h2⟩
   have HF : Hid (Moves R w w2 ∧ Rs w2 R S (failR S.z 41 σ)) := ⟨HR.out.2.1.trans h1, h2⟩
   clear h1 h2 K
   go_wp2
   go_ret
   exact ⟨HF.out.1, ⟨0, _, rfl, rfl, HE.out.1⟩, by rw [HE.out.2]; exact HF.out.2⟩
end
section
open Go.RowKit
set_option maxRecDepth 100000
set_option linter.unusedSimpArgs false
set_option linter.unusedVariables false
theorem RowAt.more {w : World} {R B B' : Nat} {ad : Addr} {ss : List (List Nat)} (h : RowAt w R B ad ss) (hB : B ≤ B') : RowAt w R B' ad ss := ⟨h.1, Nat.lt_of_lt_of_le h.2.1 hB, h.2.2⟩
def lvN : List (List (List Nat)) := [sOr, sAnd, sCmp, sSum, sProd]
def LvAt (w : World) (R B : Nat) (ad : Addr) : Prop := ad.block ≠ R ∧ ad.block < B ∧ ∀ n ss, lvN[n]? = some ss → ∃ rd, w.cell? (ad.add n) = some (.slice (some rd) ss.length ss.length) ∧ RowAt w R B rd ss
theorem LvAt.moves {w w' : World} {R B : Nat} {ad : Addr} (h : LvAt w R B ad) (hm : Moves R w w') (hB : B ≤ w.heap.size) : LvAt w' R B ad :=
 ⟨h.1, h.2.1, fun n ss hs => by
  obtain ⟨rd, h1, h2⟩ := h.2.2 n ss hs
  exact ⟨rd, by rw [hm.cell (by rw [addr_block]; exact Nat.lt_of_lt_of_le h.2.1 hB) (by rw [addr_block]; exact h.1)]; exact h1, h2.moves hm hB⟩⟩
theorem LvAt.other {w w' : World} {R B g : Nat} {ad : Addr} (h : LvAt w R B ad) (ho : ∀ k, k ≠ g → w'.heap[k]? = w.heap[k]?) (hB : B ≤ g) : LvAt w' R B ad :=
 ⟨h.1, h.2.1, fun n ss hs => by
  obtain ⟨rd, h1, h2⟩ := h.2.2 n ss hs
  exact ⟨rd, by rw [World.cell?_of_block (ho _ (by rw [addr_block]; have := h.2.1; omega))]; exact h1, h2.other ho hB⟩⟩
theorem lv_laid (w : World) (R : Nat) (hR : R < w.heap.size) (a1 a2 a3 a4 a5 : Array Value) (h1 : a1 = (sOr.map strV).toArray) (h2 : a2 = (sAnd.map strV).toArray) (h3 : a3 = (sCmp.map strV).toArray) (h4 : a4 = (sSum.map strV).toArray) (h5 : a5 = (sProd.map strV).toArray) (w' : World)
  (hw : w' = (((((w.alloc (.cells a1 9)).alloc (.cells a2 9)).alloc (.cells a3 9)).alloc (.cells a4 9)).alloc (.cells a5 9)).alloc (.cells #[.slice (some ⟨w.heap.size, 0, none⟩) 1 1, .slice (some ⟨w.heap.size + 1, 0, none⟩) 1 1, .slice (some ⟨w.heap.size + 2, 0, none⟩) 6 6, .slice (some ⟨w.heap.size + 3, 0, none⟩) 2 2, .slice (some ⟨w.heap.size + 4, 0, none⟩) 3 3] 197)) :
  Below w.heap.size w w' ∧ LvAt w' R w'.heap.size ⟨w.heap.size + 5, 0, none⟩ := by
 subst hw
 have g1 := RowAt.new w R sOr a1 h1 hR (w.heap.size + 1) (by omega)
 have b1 := below_alloc w (.cells a1 9)
 have s1 : (w.alloc (.cells a1 9)).heap.size = w.heap.size + 1 := by simp
 generalize w.alloc (.cells a1 9) = w1 at *
 have g2 := RowAt.new w1 R sAnd a2 h2 (by omega) (w.heap.size + 2) (by omega)
 have b2 := below_alloc w1 (.cells a2 9)
 have s2 : (w1.alloc (.cells a2 9)).heap.size = w.heap.size + 2 := by simp [s1]
 generalize w1.alloc (.cells a2 9) = w2 at *
 have g3 := RowAt.new w2 R sCmp a3 h3 (by omega) (w.heap.size + 3) (by omega)
 have b3 := below_alloc w2 (.cells a3 9)
 have s3 : (w2.alloc (.cells a3 9)).heap.size = w.heap.size + 3 := by simp [s2]
 generalize w2.alloc (.cells a3 9) = w3 at *
 have g4 := RowAt.new w3 R sSum a4 h4 (by omega) (w.heap.size + 4) (by omega)
 have b4 := below_alloc w3 (.cells a4 9)
 have s4 : (w3.alloc (.cells a4 9)).heap.size = w.heap.size + 4 := by simp [s3]
 generalize w3.alloc (.cells a4 9) = w4 at *
 have g5 := RowAt.new w4 R sProd a5 h5 (by omega) (w.heap.size + 5) (by omega)
 have b5 := below_alloc w4 (.cells a5 9)
 have s5 : (w4.alloc (.cells a5 9)).heap.size = w.heap.size + 5 := by simp [s4]
 generalize w4.alloc (.cells a5 9) = w5 at *
 generalize ho : (Obj.cells #[.slice (some ⟨w.heap.size, 0, none⟩) 1 1, .slice (some ⟨w.heap.size + 1, 0, none⟩) 1 1, .slice (some ⟨w.heap.size + 2, 0, none⟩) 6 6, .slice (some ⟨w.heap.size + 3, 0, none⟩) 2 2, .slice (some ⟨w.heap.size + 4, 0, none⟩) 3 3] 197) = o
 have b6 := below_alloc w5 o
 have n6 := heap_alloc_new w5 o
 have s6 : (w5.alloc o).heap.size = w.heap.size + 6 := by simp [s5]
 generalize w5.alloc o = w6 at *
 subst ho
 rw [s5] at n6
 have m6 : Moves R w5 w6 := Moves.of_below (R := R) b6 (Nat.le_refl _)
 have m5 : Moves R w4 w6 := (Moves.of_below (R := R) b5 (Nat.le_refl _)).trans m6
 have m4 : Moves R w3 w6 := (Moves.of_below (R := R) b4 (Nat.le_refl _)).trans m5
 have m3 : Moves R w2 w6 := (Moves.of_below (R := R) b3 (Nat.le_refl _)).trans m4
 have m2 : Moves R w1 w6 := (Moves.of_below (R := R) b2 (Nat.le_refl _)).trans m3
 have B : ∀ {a b : World}, Below a.heap.size a b → w.heap.size ≤ a.heap.size → Below w.heap.size a b := fun h k => h.mono k
 refine ⟨((((b1.trans (B b2 (by omega))).trans (B b3 (by omega))).trans (B b4 (by omega))).trans (B b5 (by omega))).trans (B b6 (by omega)), by show w.heap.size + 5 ≠ R; omega, by show w.heap.size + 5 < _; omega, fun n ss hs => ?_⟩
 have c : ∀ j, w6.cell? (Addr.add ⟨w.heap.size + 5, 0, none⟩ j) = #[Value.slice (some ⟨w.heap.size, 0, none⟩) 1 1, .slice (some ⟨w.heap.size + 1, 0, none⟩) 1 1, .slice (some ⟨w.heap.size + 2, 0, none⟩) 6 6, .slice (some ⟨w.heap.size + 3, 0, none⟩) 2 2, .slice (some ⟨w.heap.size + 4, 0, none⟩) 3 3][j]? := fun j => by
  rw [Addr.add_lit, cell_of_row _ _ _ _ _ _ n6, Nat.zero_add]
 rw [s1] at g2
 rw [s2] at g3
 rw [s3] at g4
 rw [s4] at g5
 rw [s6]
 rcases n with _ | _ | _ | _ | _ | n
 ·simp [lvN] at hs
  subst hs
  exact ⟨_, c 0, (g1.moves m2 (by omega)).more (by omega)⟩
 ·simp [lvN] at hs
  subst hs
  exact ⟨_, c 1, (g2.moves m3 (by omega)).more (by omega)⟩
 ·simp [lvN] at hs
  subst hs
  exact ⟨_, c 2, (g3.moves m4 (by omega)).more (by omega)⟩
 ·simp [lvN] at hs
  subst hs
  exact ⟨_, c 3, (g4.moves m5 (by omega)).more (by omega)⟩
 ·simp [lvN] at hs
  subst hs
  exact ⟨_, c 4, (g5.moves m6 (by omega)).more (by omega)⟩
 ·simp [lvN] at hs
set_option maxHeartbeats 800000 in
theorem rlevels (R : Nat) (w : World) (hR : R < w.heap.size) :
  Calls Tryz.prog 224 #[] w fun x w' => ∃ ad, x = .returned (.slice (some ad) 5 5) ∧ Below w.heap.size w w' ∧ LvAt w' R w'.heap.size ad := by
 have HL := Lib.hid (lv_laid w R hR #[.string ⟨#[124, 124]⟩] #[.string ⟨#[38, 38]⟩] #[.string ⟨#[61, 61]⟩, .string ⟨#[33, 61]⟩, .string ⟨#[60]⟩, .string ⟨#[60, 61]⟩, .string ⟨#[62]⟩, .string ⟨#[62, 61]⟩] #[.string ⟨#[43]⟩, .string ⟨#[45]⟩] #[.string ⟨#[42]⟩, .string ⟨#[47]⟩, .string ⟨#[37]⟩] (by kernel_rfl) (by kernel_rfl) (by kernel_rfl) (by kernel_rfl) (by kernel_rfl) _ rfl)
 clear hR
 go_enter Tryz.func224, Tryz.ntmps224
 go_wp2
 go_ret
 exact ⟨_, rfl, HL.out⟩
theorem rplaceR (R : Nat) (S : Src) (σ : Res Unit) (w : World) (ha : Rs w R S σ) :
  Calls Tryz.prog 67 #[.pointer (some ⟨R, 0, none⟩)] w fun x w' => ∃ q : Nat, x = .returned (.int .i64 q) ∧ (∀ u ts, σ = .ok u ts → q = (peekT S.z ts).place) ∧ Below w.heap.size w w' := by
 cases σ with
 | ok u ts =>
  obtain ⟨i, rfl, ha⟩ := ha
  exact (rplace R S i 0 0 w ha).mono fun x w' ⟨h1, h2⟩ => ⟨_, h1, fun u' ts' e => (by injection e with _ e; rw [e]), h2⟩
 | bad c p =>
  obtain ⟨_, i, ha⟩ := ha
  exact (rplace R S i c p w ha).mono fun x w' ⟨h1, h2⟩ => ⟨_, h1, fun u' ts' e => (by cases e), h2⟩
end
section
open Go.RowKit
set_option maxRecDepth 100000
set_option linter.unusedSimpArgs false
set_option linter.unusedVariables false
def ReadsR (R : Nat) (S : Src) (fn : Nat) (args : Array Value) (e : Par Ex) : Prop := ∀ σ w, Rs w R S σ → Calls Tryz.prog fn args w (RGot R S (QE w.heap.size) w (σ.bind fun _ ts => e ts))
abbrev ExprR (R : Nat) (S : Src) (d : Nat) (e : Par Ex) : Prop := ReadsR R S 150 #[.pointer (some ⟨R, 0, none⟩), .int .i64 d] e
abbrev OneR (R : Nat) (S : Src) (d : Nat) (e : Par Ex) : Prop := ReadsR R S 225 #[.pointer (some ⟨R, 0, none⟩), .int .i64 d] e
abbrev zE : Obj := .cells #[.int .i64 0, .int .i64 0, .string ⟨#[]⟩, .slice none 0 0, .int .i64 0] 202
theorem unit_must {z : Nat} {s : List Nat} (m : Res Ex) : (m.bind fun x r => (wantT z s r).bind fun _ q => .ok x q).unit = mustR z s m.unit := by
 cases m with
 | bad c p => rfl
 | ok x r =>
  show ((wantT z s r).bind fun _ q => .ok x q).unit = wantT z s r
  cases wantT z s r <;> rfl
theorem open_one {R : Nat} {S : Src} {σ : Res Unit} {w : World} (ha : Rs w R S σ) (a : Obj) : Rs (w.alloc a) R S σ ∧ Below w.heap.size w (w.alloc a) ∧ (w.alloc a).heap[w.heap.size]? = some a ∧ (w.alloc a).heap.size = w.heap.size + 1 ∧ R < w.heap.size :=
 ⟨ha.below (below_alloc w a) (Nat.le_refl _), below_alloc w a, heap_alloc_new w a, by simp, ha.lt⟩
def innerP (z : Nat) (e : Par Ex) : Par Ex := fun ts => (wantT z [40] ts).bind fun _ r => (e r).bind fun x r' => (wantT z [41] r').bind fun _ q => .ok x q
theorem inner_bind (z : Nat) (e : Par Ex) (σ : Res Unit) : (σ.bind fun _ ts => innerP z e ts) = ((mustR z [40] σ).bind fun _ ts => e ts).bind fun x r' => (wantT z [41] r').bind fun _ q => .ok x q := by
 cases σ with
 | bad c p => rfl
 | ok u ts =>
  show ((wantT z [40] ts).bind _) = ((wantT z [40] ts).bind _).bind _
  cases wantT z [40] ts <;> rfl
theorem closed_ok {z : Nat} {s : List Nat} {me : Res Ex} {a : Ex} {r : List Tok} (h : (me.bind fun x r' => (wantT z s r').bind fun _ q => .ok x q) = .ok a r) : ∃ r', me = .ok a r' := by
 cases me with
 | bad c p => cases h
 | ok a' r' =>
  simp only [Res.bind_ok] at h
  cases hw : wantT z s r' with
  | bad c p => rw [hw] at h; cases h
  | ok u q => rw [hw] at h; injection h with h; exact ⟨r', by rw [h]⟩
set_option maxHeartbeats 1600000 in
theorem rinner (R : Nat) (S : Src) (d : Nat) (e : Par Ex) (he : ExprR R S (d + 1) e) (hd : d < 100) (σ : Res Unit) (w : World) (ha : Rs w R S σ) :
  Calls Tryz.prog 289 #[.pointer (some ⟨R, 0, none⟩), .int .i64 d] w (RGot R S (QE w.heap.size) w (σ.bind fun _ ts => innerP S.z e ts)) := by
 rw [inner_bind]
 have HO := Lib.hid (open_one ha zE)
 have K := Lib.hid (rmust R S σ [40] ⟨#[40]⟩ _ HO.out.1 (by kernel_rfl) (by unfold Byn; decide))
 have HE := Lib.hid he
 have HR := Lib.hid ha.lt
 have HU := Lib.hid (unit_must (z := S.z) (s := [41]) ((mustR S.z [40] σ).bind fun _ ts => e ts))
 have HC : Hid (∀ a r, (((mustR S.z [40] σ).bind fun _ ts => e ts).bind fun x r' => (wantT S.z [41] r').bind fun _ q => .ok x q) = .ok a r → ∃ r', ((mustR S.z [40] σ).bind fun _ ts => e ts) = .ok a r') := fun a r h => closed_ok h
 generalize (((mustR S.z [40] σ).bind fun _ ts => e ts).bind fun x r' => (wantT S.z [41] r').bind fun _ q => Res.ok x q) = m at *
 generalize mustR S.z [40] σ = σ1 at *
 generalize hme : (σ1.bind fun _ ts => e ts) = me at *
 clear ha he
 go_enter Tryz.func289, Tryz.ntmps289
 go_wp2_with fail
 generalize w.alloc zE = w0 at *
 (with_reducible refine K.out.mono ?_)
 clear K
 rintro x w1 ⟨rfl, m1, r1⟩
 have K := Lib.hid (HE.out _ w1 r1)
 have N1 : Hid (w1.heap[w.heap.size]? = some zE ∧ Moves R w w1 ∧ w.heap.size < w1.heap.size) := ⟨by rw [m1.block' (by have := HO.out.2.2.2.1; omega) (by have := HR.out; omega)]; exact HO.out.2.2.1, (Moves.of_below HO.out.2.1 (Nat.le_refl _)).trans m1, by have := HO.out.2.2.2.1; have := m1.size; omega⟩
 rw [show ((d + 1 : Nat) : Int) = (d : Int) + 1 by omega] at K
 rw [hme] at K
 clear m1 r1 HO
 go_wp2_with fail
 (with_reducible refine K.out.mono ?_)
 clear K
 rintro x w2 ⟨m2, ⟨v, xv, rfl, hq, hv⟩, r2⟩
 obtain ⟨k, rfl, hk, hk1⟩ := exV_cells hq
 obtain ⟨A, c, rfl⟩ := exsC_slice hk
 have o2 := open_one r2 (exO v (.slice A v.kids.length c))
 have K := Lib.hid (rmust R S _ [41] ⟨#[41]⟩ _ o2.1 (by kernel_rfl) (by unfold Byn; decide))
 have N2 : Hid ((w2.alloc (exO v (.slice A v.kids.length c))).heap[w.heap.size]? = some zE ∧ Moves R w (w2.alloc (exO v (.slice A v.kids.length c))) ∧ (w2.alloc (exO v (.slice A v.kids.length c))).heap[w2.heap.size]? = some (exO v (.slice A v.kids.length c)) ∧ (w2.alloc (exO v (.slice A v.kids.length c))).heap.size = w2.heap.size + 1 ∧ w1.heap.size ≤ w2.heap.size ∧ ExsC (w2.alloc (exO v (.slice A v.kids.length c))) (Rng w1.heap.size w2.heap.size) v.kids (.slice A v.kids.length c)) :=
  ⟨by rw [o2.2.1.block _ (by have := m2.size; have := N1.out.2.2; omega), m2.block' N1.out.2.2 (by have := HR.out; omega)]; exact N1.out.1, (N1.out.2.1.trans m2).below o2.2.1 (Nat.le_refl _), o2.2.2.1, o2.2.2.2.1, m2.size, hk.same fun q h => o2.2.1.block q h.2⟩
 have HV := Lib.hid hv
 clear m2 hq hk hk1 o2 r2 hv
 go_wp2_with fail
 generalize w2.alloc (exO v (.slice A v.kids.length c)) = w3 at *
 (with_reducible refine K.out.mono ?_)
 clear K
 rintro x w4 ⟨rfl, m4, r4⟩
 have N4 : Hid (w4.there w.heap.size 0 5 ∧ Moves R w w4 ∧ ExAt w4 w2.heap.size v (.slice A v.kids.length c) ∧ w3.heap.size ≤ w4.heap.size ∧ ExsC w4 (Rng w1.heap.size w2.heap.size) v.kids (.slice A v.kids.length c)) := by
  obtain ⟨a1, a2, a3, a4, a5, a6⟩ := N2.out
  have hr := HR.out
  have hn := N1.out.2.2
  refine ⟨there_cells (cs := [.int .i64 0, .int .i64 0, .string ⟨#[]⟩, .slice none 0 0, .int .i64 0]) (T := 202) (by rw [m4.block' (by omega) (by omega)]; exact a1) rfl, a2.trans m4, ExAt.of_block (by rw [m4.block' (by omega) (by omega)]; exact a3), m4.size, a6.same fun q h => ?_⟩
  have h1 : w1.heap.size ≤ q := h.1
  have h2 : q < w2.heap.size := h.2
  exact m4.block' (by omega) (by omega)
 obtain ⟨l0, l1, l2, l3, l4⟩ := N4.out.2.2.1.cells
 have R4 := Lib.hid r4
 clear m4 r4
 go_wp2_with (refine wpList_storeN info39s rfl (.tmp 4) (.tmp 14) rfl rfl w.heap.size rfl [_, _, _, _, _] rfl rfl N4.out.1 (by simp [Value.oneCell']) ?_; intro w5 g1 g2 g3 g4 g5)
 refine bodyPost_ret (ret_cell (cs := [_, _, _, _, _]) Tryz.results289 Tryz.underlying202 rfl info39s _ _ w.heap.size rfl g1) rfl ?_
 have hn := N1.out.2.2
 have hs3 := N2.out.2.2.2.1
 have hs4 := N4.out.2.2.2.1
 have hs2 := N2.out.2.2.2.2.1
 refine ⟨N4.out.2.1.low g3 (Nat.le_refl _), ⟨v, _, rfl, ⟨_, rfl, ?_⟩, fun a r h => ?_⟩, ?_⟩
 ·refine (N4.out.2.2.2.2.same fun q h => g4 q ?_).more fun q h => ⟨?_, ?_⟩
  ·have : w1.heap.size ≤ q := h.1
   omega
  ·have : w1.heap.size ≤ q := h.1
   omega
  ·have : q < w2.heap.size := h.2
   omega
 ·obtain ⟨r', h'⟩ := HC.out a r h
  exact HV.out a r' h'
 ·rw [HU.out]
  exact R4.out.other HR.out g4
end
section
open Go.RowKit
set_option maxRecDepth 100000
set_option linter.unusedSimpArgs false
set_option linter.unusedVariables false
theorem sOne_byn : ∀ s ∈ sOne, Byn s := by unfold sOne Byn; decide
theorem sees_of {z : Nat} {ss : List (List Nat)} {ts : List Tok} {s : List Nat} (hs : s ∈ ss) (h : seesT z [s] ts = true) : seesT z ss ts = true ∧ (peekT z ts).text = s := by
 unfold seesT isOne at *
 simp at h
 simp [h.1, h.2, hs]
theorem nots_sees {z : Nat} {ss : List (List Nat)} {u : Unit} {ts : List Tok} (h : Nots z ss (.ok u ts) ss.length) : seesT z ss ts = false := by
 cases hs : seesT z ss ts with
 | false => rfl
 | true =>
  unfold seesT isOne at hs
  simp at hs
  obtain ⟨i, hi, he⟩ := List.getElem_of_mem hs.2
  have := h i ss[i] hi (List.getElem?_eq_getElem hi)
  simp [isR, seesT, isOne, hs.1, he] at this
def OneSR (ad : Addr) (k : Nat) (s : List Nat) (X : Nat) (cs : List Value) (w : World) : Prop := w.cell? (ad.add k) = some (.string (strN s)) ∧ w.rangeAt X 0 cs
theorem OneSR.of {ad : Addr} {k : Nat} {s : List Nat} {X : Nat} {cs : List Value} {w w' : World} (h : OneSR ad k s X cs w) (h1 : w'.heap[ad.block]? = w.heap[ad.block]?) (h2 : w'.heap[X]? = w.heap[X]?) : OneSR ad k s X cs w' :=
 ⟨(World.cell?_of_block (a := ad.add k) (by rw [addr_block, h1])).trans h.1, fun j v hv => by rw [World.cell?_of_block (a := ⟨X, 0 + j, none⟩) h2]; exact h.2 j v hv⟩
theorem exs_oneR {w' : World} {D : Nat → Prop} {b : Nat} {x : Ex} {k : Value} (hb : w'.heap[b]? = some (exO x k)) (hlo : D b) (hx : ExsC w' D x.kids k) : ExsC w' D [x] (.slice (some ⟨b, 0, none⟩) 1 1) := by
 refine .mk [x] [k] _ rfl ⟨_, _, rfl, Nat.le_refl _, by unfold maxLen; simp, (fun e => by cases e), fun j u hu => ⟨_, rfl, hlo, ?_⟩⟩ fun i e q he hq => ?_
 ·rw [Addr.add_lit, cell_of_row _ _ _ _ _ _ hb, Nat.zero_add]
  simpa [exsC, exC] using hu
 ·rcases i with _ | i
  ·simp at he hq
   subst he hq
   exact hx
  ·simp at he
structure OneB (R : Nat) (w wr : World) (ad : Addr) : Prop where
 mv : Moves R w wr
 sz : w.heap.size + 2 ≤ wr.heap.size
 z : wr.heap[w.heap.size]? = some zE
 row : RowAt wr R (w.heap.size + 2) ad sOne
theorem OneB.moves {R : Nat} {w w1 w2 : World} {ad : Addr} (h : OneB R w w1 ad) (hm : Moves R w1 w2) (hR : R < w.heap.size) : OneB R w w2 ad :=
 ⟨h.mv.trans hm, Nat.le_trans h.sz hm.size, by rw [hm.block' (by have := h.sz; omega) (by omega)]; exact h.z, h.row.moves hm h.sz⟩
set_option maxHeartbeats 1600000 in
theorem rone (R : Nat) (S : Src) (d : Nat) (e o : Par Ex) (ho : d + 1 ≤ 32 → OneR R S (d + 1) o) (hb : 32 < d + 1 → ∀ ts, o ts = failT S.z 42 ts) (hp : ReadsR R S 259 #[.pointer (some ⟨R, 0, none⟩), .int .i64 d] (primaryP S.z e)) (hd : d < 100) : OneR R S d (oneS S.z e o) := by
 intro σ w ha
 have HR := Lib.hid ha.lt
 have h0 := open_one ha zE
 have K := Lib.hid (rplaceR R S σ _ h0.1)
 have HP := Lib.hid hp
 have HO := Lib.hid ho
 have HB := Lib.hid hb
 have HA := Lib.hid h0
 have HMt : Hid (∀ u ts, σ = .ok u ts → seesT S.z sOne ts = true → (σ.bind fun _ ts => oneS S.z e o ts) = (o ts.tail).bind fun x r => .ok (.mk 7 0 (peekT S.z ts).text [x] (peekT S.z ts).place) r) := fun u ts h1 h2 => by
  subst h1
  show oneS S.z e o ts = _
  unfold oneS
  rw [if_pos h2]
 have HMf : Hid (Nots S.z sOne σ 2 → (σ.bind fun _ ts => oneS S.z e o ts) = σ.bind fun _ ts => primaryP S.z e ts) := fun hn => by
  cases σ with
  | bad c p => rfl
  | ok u ts =>
   show oneS S.z e o ts = _
   unfold oneS
   rw [if_neg (by simp [nots_sees hn])]
   rfl
 generalize (σ.bind fun _ ts => oneS S.z e o ts) = m at *
 clear ha ho hb hp h0
 go_enter Tryz.func225, Tryz.ntmps225
 go_wp2_with fail
 generalize w.alloc zE = w0 at *
 (with_reducible refine K.out.mono ?_)
 clear K
 rintro x w1 ⟨q, rfl, hq, b1⟩
 have h1 := HA.out.1.below b1 (Nat.le_refl _)
 have s0 := HA.out.2.2.2.1
 have s1 := b1.size
 have hr := HR.out
 have b2 := below_alloc w1 (.cells #[.string ⟨#[45]⟩, .string ⟨#[33]⟩] 9)
 have HI : Hid (Rs (w1.alloc (.cells #[.string ⟨#[45]⟩, .string ⟨#[33]⟩] 9)) R S σ ∧ Moves R w (w1.alloc (.cells #[.string ⟨#[45]⟩, .string ⟨#[33]⟩] 9)) ∧ w1.heap.size + 1 ≤ (w1.alloc (.cells #[.string ⟨#[45]⟩, .string ⟨#[33]⟩] 9)).heap.size ∧ (w1.alloc (.cells #[.string ⟨#[45]⟩, .string ⟨#[33]⟩] 9)).heap[w.heap.size]? = some zE ∧ RowAt (w1.alloc (.cells #[.string ⟨#[45]⟩, .string ⟨#[33]⟩] 9)) R (w1.heap.size + 1) ⟨w1.heap.size, 0, none⟩ sOne) :=
  ⟨h1.below b2 (Nat.le_refl _), ((Moves.of_below HA.out.2.1 (Nat.le_refl _)).below b1 (Nat.le_refl _)).below b2 (Nat.le_refl _), by simp, by rw [b2.block _ (by omega), b1.block _ (by omega)]; exact HA.out.2.2.1, RowAt.new w1 R sOne _ (by kernel_rfl) (by omega) _ (by omega)⟩
 have HQ := Lib.hid hq
 have HS : Hid (w.heap.size < w1.heap.size) := by show _ < _; omega
 clear h1 s0 s1 hr b1 b2 hq
 go_wp2_with fail
 generalize w1.alloc (.cells #[.string ⟨#[45]⟩, .string ⟨#[33]⟩] 9) = w2 at *
 have HAd : Hid ((Addr.mk w1.heap.size 0 none).block = w1.heap.size) := rfl
 generalize (Addr.mk w1.heap.size 0 none) = ad at *
 generalize w1.heap.size = n1 at *
 go_loopw [7] (fun i wr => ∃ k : Nat, k ≤ 2 ∧ i = .int .i64 k ∧ Hid (Rs wr R S σ ∧ Moves R w wr ∧ n1 + 1 ≤ wr.heap.size ∧ wr.heap[w.heap.size]? = some zE ∧ RowAt wr R (n1 + 1) ad sOne ∧ Nots S.z sOne σ k)) (fun i _ => 2 - (intOf i).toNat)
 case atStart => exact ⟨0, Nat.zero_le _, rfl, HI.out.1, HI.out.2.1, HI.out.2.2.1, HI.out.2.2.2.1, HI.out.2.2.2.2, Nots.zero _ _ _⟩
 case round =>
  obtain ⟨k, hk, rfl, HK⟩ := hrel
  by_cases hlt : k < 2
  ·have hg : sOne[k]? = some sOne[k] := List.getElem?_eq_getElem hlt
   generalize sOne[k] = s at hg
   have c1 := HK.out.2.2.2.2.1.2.2 k s hg
   have K := Lib.hid (rtake R S σ s _ wr HK.out.1 rfl (sOne_byn s (List.mem_of_getElem? hg)))
   have HG := Lib.hid hg
   clear hg
   cases hb : isR S.z s σ with
   | true =>
    obtain ⟨u, ts, rfl, hs1, hp1⟩ := pass_true hb
    have HT : Hid (seesT S.z sOne ts = true ∧ (peekT S.z ts).text = s ∧ q = (peekT S.z ts).place) := ⟨(sees_of (List.mem_of_getElem? HG.out) hs1).1, (sees_of (List.mem_of_getElem? HG.out) hs1).2, HQ.out u ts rfl⟩
    have HM := Lib.hid (HMt.out u ts rfl HT.out.1)
    rw [hb, hp1] at K
    clear hb hs1 hp1
    go_wp2_with fail
    (with_reducible refine K.out.mono ?_)
    rintro x w3 ⟨rfl, h1, h2⟩
    have K := Lib.hid (rdeep R S _ (d + 1) _ h2)
    have HF : Hid (Moves R w w3 ∧ n1 + 1 ≤ w3.heap.size ∧ w3.heap[w.heap.size]? = some zE ∧ RowAt w3 R (n1 + 1) ad sOne) :=
     ⟨HK.out.2.1.trans h1, Nat.le_trans HK.out.2.2.1 h1.size, by rw [h1.block' (by have := HK.out.2.2.1; have := HS.out; omega) (by have := HR.out; omega)]; exact HK.out.2.2.2.1, HK.out.2.2.2.2.1.moves h1 HK.out.2.2.1⟩
    rw [show ((d + 1 : Nat) : Int) = (d : Int) + 1 by omega] at K
    clear h1 h2 c1
    go_wp2_with fail
    (with_reducible refine K.out.mono ?_)
    clear K
    rintro x w4 ⟨rfl, h1, h2⟩
    have HF4 : Hid (Moves R w w4 ∧ n1 + 1 ≤ w4.heap.size ∧ w4.heap[w.heap.size]? = some zE ∧ RowAt w4 R (n1 + 1) ad sOne) :=
     ⟨HF.out.1.trans h1, Nat.le_trans HF.out.2.1 h1.size, by rw [h1.block' (by have := HF.out.2.1; have := HS.out; omega) (by have := HR.out; omega)]; exact HF.out.2.2.1, HF.out.2.2.2.moves h1 HF.out.2.1⟩
    clear h1
    by_cases hd32 : d + 1 ≤ 32
    ·have h3 : Rs w4 R S (.ok () ts.tail) := by unfold deepR at h2; rw [if_pos hd32] at h2; exact h2
     have K := Lib.hid (HO.out hd32 _ w4 h3)
     rw [show ((d + 1 : Nat) : Int) = (d : Int) + 1 by omega] at K
     rw [show (Res.bind (.ok () ts.tail) fun _ ts => o ts) = o ts.tail from rfl] at K
     generalize o ts.tail = mo at *
     obtain ⟨i, hi, hg⟩ := h3
     obtain ⟨_, _, c2, _, _⟩ := hg.cells
     rw [show ((0 : Nat) : Int) = 0 from rfl] at c2
     clear hi hg h2
     go_wp2_with fail
     (with_reducible refine K.out.mono ?_)
     clear K
     rintro x w5 ⟨m5, ⟨v, xv, rfl, hq, hv⟩, r5⟩
     obtain ⟨kk, rfl, hk2, hk1⟩ := exV_cells hq
     obtain ⟨A, c, rfl⟩ := exsC_slice hk2
     have o5 := open_one r5 (exO v (.slice A v.kids.length c))
     have hn4 := HF4.out.2.1
     have hn1 := HS.out
     have hrr := HR.out
     have hs5 := m5.size
     have N6 : Hid (Rs (w5.alloc (exO v (.slice A v.kids.length c))) R S mo.unit ∧ Moves R w (w5.alloc (exO v (.slice A v.kids.length c))) ∧ (w5.alloc (exO v (.slice A v.kids.length c))).heap[w.heap.size]? = some zE ∧ RowAt (w5.alloc (exO v (.slice A v.kids.length c))) R (n1 + 1) ad sOne ∧ (w5.alloc (exO v (.slice A v.kids.length c))).heap[w5.heap.size]? = some (exO v (.slice A v.kids.length c)) ∧ (w5.alloc (exO v (.slice A v.kids.length c))).heap.size = w5.heap.size + 1 ∧ n1 + 1 ≤ w5.heap.size ∧ w4.heap.size ≤ w5.heap.size ∧ ExsC (w5.alloc (exO v (.slice A v.kids.length c))) (Rng w4.heap.size w5.heap.size) v.kids (.slice A v.kids.length c)) := by
      have m6 := m5.below o5.2.1 (Nat.le_refl _)
      refine ⟨o5.1, HF4.out.1.trans m6, ?_, HF4.out.2.2.2.moves m6 hn4, o5.2.2.1, o5.2.2.2.1, by omega, hs5, hk2.same fun q h => o5.2.1.block q h.2⟩
      rw [m6.block' (by omega) (by omega)]
      exact HF4.out.2.2.1
     have HV := Lib.hid hv
     clear m5 hq hk2 hk1 o5 r5 hv hn4 hn1 hrr hs5
     go_wp2_with fail
     generalize w5.alloc (exO v (.slice A v.kids.length c)) = w6 at *
     have HS6 : Hid (OneSR ad k s w5.heap.size [.int .i64 v.op, .int .i64 v.num, .string (strN v.text), .slice A v.kids.length c, .int .i64 v.place] w6) := ⟨N6.out.2.2.2.1.2.2 k s HG.out, range_of (cs := [_, _, _, _, _]) N6.out.2.2.2.2.1⟩
     have HSd : Hid (∀ w', OneSR ad k s w5.heap.size [.int .i64 v.op, .int .i64 v.num, .string (strN v.text), .slice A v.kids.length c, .int .i64 v.place] w' → w'.cell? (ad.add k) = some (.string (strN s))) := fun w' h => h.1
     refine wp_region_held_drew (S := OneSR ad k s w5.heap.size [.int .i64 v.op, .int .i64 v.num, .string (strN v.text), .slice A v.kids.length c, .int .i64 v.place]) (by kernel_rfl) (HS6.out.of rfl rfl) (fun hHeld => ?_)
     refine wpAnyH_take (i := 0) (v := ?v0) rfl (by kernel_rfl) (by kernel_rfl) (by kernel_rfl) (fun _ _ _ h => h) (Or.inl ⟨by kernel_rfl, ?y0⟩) (by assumption) ?r0
     case y0 => (intro w hSw; (try dsimp only at hSw); go_simp; (try with_reducible rfl))
     try simp only [Act.put, List.getElem_toArray, List.getElem_cons_zero, List.getElem_cons_succ, List.setIfInBounds_toArray, List.set_cons_zero, List.set_cons_succ]
     refine wpAnyH_take (i := 1) (v := ?v1) rfl (by kernel_rfl) (by kernel_rfl) (by kernel_rfl) (fun _ _ _ h => h) (Or.inl ⟨by kernel_rfl, ?y1⟩) (by assumption) ?r1
     case y1 => (intro w hSw; (try dsimp only at hSw); go_simp; (try with_reducible rfl))
     try simp only [Act.put, List.getElem_toArray, List.getElem_cons_zero, List.getElem_cons_succ, List.setIfInBounds_toArray, List.set_cons_zero, List.set_cons_succ]
     refine wpAnyH_take (i := 2) (v := ?v2) rfl (by kernel_rfl) (by kernel_rfl) (by kernel_rfl) (fun _ _ _ h => h) (Or.inl ⟨by kernel_rfl, ?y2⟩) (by assumption) ?r2
     case y2 => (intro w hSw; (try dsimp only at hSw); go_simp; (try with_reducible rfl))
     try simp only [Act.put, List.getElem_toArray, List.getElem_cons_zero, List.getElem_cons_succ, List.setIfInBounds_toArray, List.set_cons_zero, List.set_cons_succ]
     refine wpAnyH_take (i := 3) (v := ?v3) rfl (by kernel_rfl) (by kernel_rfl) (by kernel_rfl) (fun _ _ _ h => h) (Or.inl ⟨by kernel_rfl, ?y3⟩) (by assumption) ?r3
     case y3 => (intro w hSw; have q1 := HSd.out _ hSw; (try dsimp only at hSw); go_simp; (try with_reducible rfl))
     try simp only [Act.put, List.getElem_toArray, List.getElem_cons_zero, List.getElem_cons_succ, List.setIfInBounds_toArray, List.set_cons_zero, List.set_cons_succ]
     refine wpAnyH_take (i := 4) (v := .agg #[.int .i64 v.op, .int .i64 v.num, .string (strN v.text), .slice A v.kids.length c, .int .i64 v.place]) rfl (by kernel_rfl) (by kernel_rfl) (by kernel_rfl) (fun _ _ _ h => h) (yieldsIf_load_mid (by kernel_rfl) 202 (.tmp 8) rfl w5.heap.size 0 rfl _ _ (fun w' h => h.2) Tryz.underlying202 rfl info39s) (by assumption) ?r4
     try simp only [Act.put, List.getElem_toArray, List.getElem_cons_zero, List.getElem_cons_succ, List.setIfInBounds_toArray, List.set_cons_zero, List.set_cons_succ]
     refine wpAnyH_take (i := 6) (v := ?v6) rfl (by kernel_rfl) (by kernel_rfl) (by kernel_rfl) (fun _ _ _ h => h) (Or.inl ⟨by kernel_rfl, ?y6⟩) (by assumption) ?r6
     case y6 => (intro w hSw; (try dsimp only at hSw); go_simp; (try with_reducible rfl))
     try simp only [Act.put, List.getElem_toArray, List.getElem_cons_zero, List.getElem_cons_succ, List.setIfInBounds_toArray, List.set_cons_zero, List.set_cons_succ]
     have wd : Hid (w6.drew.heap = w6.heap) := rfl
     refine wpAnyH_ready (rs := [5]) (by kernel_rfl) (by simp) ?_
     refine AllReadyH.cons rfl (fun K hK => ?_) AllReadyH.nil
     go_simp
     have N7 : Hid (Below w6.heap.size w6 (w6.alloc (exO v (.slice A v.kids.length c))).drew ∧ (w6.alloc (exO v (.slice A v.kids.length c))).drew.heap[w6.heap.size]? = some (exO v (.slice A v.kids.length c)) ∧ (w6.alloc (exO v (.slice A v.kids.length c))).drew.heap.size = w6.heap.size + 1) :=
      ⟨(below_alloc w6 _).drew, heap_alloc_new w6 _, by show (w6.alloc _).heap.size = _; simp⟩
     have hb6 : ad.block < w6.heap.size := by have h1 := N6.out.2.2.2.1.2.1; have h2 := N6.out.2.2.2.2.2.1; have h3 := N6.out.2.2.2.2.2.2.1; omega
     have hz6 : w.heap.size < w6.heap.size := by have h1 := HS.out; have h2 := N6.out.2.2.2.2.2.1; have h3 := N6.out.2.2.2.2.2.2.1; omega
     have hx6 : w5.heap.size < w6.heap.size := by have h2 := N6.out.2.2.2.2.2.1; omega
     have hS7 := HS6.out.of (N7.out.1.block _ hb6) (N7.out.1.block _ hx6)
     have N8 : Hid ((w6.alloc (exO v (.slice A v.kids.length c))).drew.heap[w.heap.size]? = some zE) := by show _ = _; rw [N7.out.1.block _ hz6]; exact N6.out.2.2.1
     have hn7 := Lib.hid hx6
     have hn8 := Lib.hid hz6
     generalize (w6.alloc (exO v (.slice A v.kids.length c))).drew = w7 at *
     clear hx6 hz6 hb6
     refine hK.out _ _ hS7 (fun hHeld => ?_)
     clear hK K
     refine wpAnyH_take (i := 7) (v := ?v7) rfl (by kernel_rfl) (by kernel_rfl) (by kernel_rfl) (fun _ _ _ h => h) (Or.inl ⟨by kernel_rfl, ?y7⟩) (by assumption) ?r7
     case y7 => (intro w hSw; (try dsimp only at hSw); go_simp; (try with_reducible rfl))
     try simp only [Act.put, List.getElem_toArray, List.getElem_cons_zero, List.getElem_cons_succ, List.setIfInBounds_toArray, List.set_cons_zero, List.set_cons_succ]
     obtain ⟨⟨z0, z1, z2, z3, z4⟩, f0, f1, f2, f3, f4⟩ := exZ_cells N8.out
     refine wpAnyH_ready (rs := [8]) (by kernel_rfl) (by simp) ?_
     refine AllReadyH.cons rfl (fun K hK => ?_) AllReadyH.nil
     go_simp
     have hb := below_cells w.heap.size 0 [.int .i64 7, .int .i64 0, .string (strN s), .slice (some ⟨w6.heap.size, 0, none⟩) 1 1, .int .i64 q] w7
     have hrg := World.rangeAt_setCells_same w7 w.heap.size 0 [.int .i64 7, .int .i64 0, .string (strN s), .slice (some ⟨w6.heap.size, 0, none⟩) 1 1, .int .i64 q] (there_cells (cs := [.int .i64 0, .int .i64 0, .string ⟨#[]⟩, .slice none 0 0, .int .i64 0]) N8.out rfl)
     change K _ (w7.setCells w.heap.size 0 [.int .i64 7, .int .i64 0, .string (strN s), .slice (some ⟨w6.heap.size, 0, none⟩) 1 1, .int .i64 q])
     generalize w7.setCells w.heap.size 0 [.int .i64 7, .int .i64 0, .string (strN s), .slice (some ⟨w6.heap.size, 0, none⟩) 1 1, .int .i64 q] = w8 at *
     have hadz : ad.block ≠ w.heap.size := by have h1 := HS.out; have h2 := HAd.out; omega
     refine hK.out _ _ (hHeld.of (hb.2.1 _ hadz) (hb.2.1 _ (by have h1 := HS.out; have h3 := N6.out.2.2.2.2.2.2.1; omega))) (fun _ => ?_)
     clear hK K hHeld hS7 z0 z1 z2 z3 z4 f0 f1 f2 f3 f4 hadz
     refine wpAnyH_done (by kernel_rfl) ?_ _
     have HBl := Lib.hid hb
     clear hb
     go_wp2
     refine bodyPost_ret (ret_cell (cs := [_, _, _, _, _]) Tryz.results225 Tryz.underlying202 rfl info39s _ _ w.heap.size rfl hrg) rfl ?_
     obtain ⟨a1, a2, a3, a4, a5, a6, a7, a8, a9⟩ := N6.out
     obtain ⟨e1, e2, e3⟩ := N7.out
     obtain ⟨e4, e5, e6⟩ := HBl.out
     have hs1 := HS.out
     have hs4 := HF4.out.2.1
     rw [HM.out]
     refine ⟨(a2.below e1 (Nat.le_refl _)).low e4 (Nat.le_refl _), ⟨.mk 7 0 s [v] q, _, rfl, ⟨.slice (some ⟨w6.heap.size, 0, none⟩) 1 1, rfl, ?_⟩, fun a r h => ?_⟩, ?_⟩
     ·refine exs_oneR (k := .slice A v.kids.length c) (by rw [e5 _ (by omega)]; exact e2) ⟨by omega, by omega⟩ ((a9.same fun q h => ?_).more fun q h => ?_)
      ·have h1 : w4.heap.size ≤ q := h.1
       have h2 : q < w5.heap.size := h.2
       rw [e5 _ (by omega), e1.block _ (by omega)]
      ·have h1 : w4.heap.size ≤ q := h.1
       have h2 : q < w5.heap.size := h.2
       exact ⟨by omega, by omega⟩
     ·cases hmo : mo with
      | bad c p => rw [hmo] at h; cases h
      | ok a' r' =>
       rw [hmo] at h
       simp only [Res.bind_ok] at h
       injection h with h _
       rw [← h, HV.out a' r' hmo, HT.out.2.1, HT.out.2.2]
     ·have hu : ∀ (f : Ex → Ex), (mo.bind fun x r => Res.ok (f x) r).unit = mo.unit := fun f => by cases mo <;> rfl
      rw [hu]
      exact (a1.below e1 (Nat.le_refl _)).other HR.out e5
    ·have h3 : Rs w4 R S (failR S.z 42 (.ok () ts.tail)) := by unfold deepR at h2; rw [if_neg hd32] at h2; exact h2
     have H3 := Lib.hid h3
     obtain ⟨_, i, hg⟩ := h3
     obtain ⟨_, _, c2, _, _⟩ := hg.cells
     have HE : Hid (m = failT S.z 42 ts.tail) := by show _ = _; rw [HM.out, HB.out (by omega)]; rfl
     have q42 : (((42 : Nat) : Int) != 0) = true := by decide
     have th := there_cells (cs := [.int .i64 0, .int .i64 0, .string ⟨#[]⟩, .slice none 0 0, .int .i64 0]) (T := 202) HF4.out.2.2.1 rfl
     have TH := Lib.hid th
     clear hg h2 th
     go_wp2_with (refine wpList_storeN info39s rfl (.tmp 4) (.tmp 31) rfl rfl w.heap.size rfl [_, _, _, _, _] rfl rfl TH.out (by simp [Value.oneCell']) ?_; intro w5 g1 g2 g3 g4 g5)
     refine bodyPost_ret (ret_cell (cs := [_, _, _, _, _]) Tryz.results225 Tryz.underlying202 rfl info39s _ _ w.heap.size rfl g1) rfl ?_
     refine ⟨HF4.out.1.low g3 (Nat.le_refl _), ⟨.mk 0 0 [] [] 0, _, rfl, ⟨.slice none 0 0, rfl, ExsC.nothing _ _⟩, fun a r h => ?_⟩, ?_⟩
     ·rw [HE.out] at h
      cases h
     ·rw [HE.out]
      exact H3.out.other HR.out g4
   | false =>
    have HE : Hid (Nots S.z sOne σ (k + 1) ∧ passR S.z s σ = σ) := ⟨HK.out.2.2.2.2.2.succ HG.out hb, pass_false hb⟩
    rw [hb] at K
    clear hb
    go_wp2_with fail
    (with_reducible refine K.out.mono ?_)
    rintro x w3 ⟨rfl, h1, h2⟩
    have HF : Hid (Rs w3 R S σ ∧ Moves R w w3 ∧ n1 + 1 ≤ w3.heap.size ∧ w3.heap[w.heap.size]? = some zE ∧ RowAt w3 R (n1 + 1) ad sOne) :=
     ⟨by rw [HE.out.2] at h2; exact h2, HK.out.2.1.trans h1, Nat.le_trans HK.out.2.2.1 h1.size, by rw [h1.block' (by have := HK.out.2.2.1; have := HS.out; omega) (by have := HR.out; omega)]; exact HK.out.2.2.2.1, HK.out.2.2.2.2.1.moves h1 HK.out.2.2.1⟩
    clear h1 h2 K
    go_wp2
    go_round
    case rel => exact ⟨k + 1, by omega, by go_num, HF.out.1, HF.out.2.1, HF.out.2.2.1, HF.out.2.2.2.1, HF.out.2.2.2.2, HE.out.1⟩
    case measure => simp [intOf]; omega
  ·obtain rfl : k = 2 := by omega
   have K := Lib.hid (HP.out σ wr HK.out.1)
   have HM := Lib.hid (HMf.out HK.out.2.2.2.2.2)
   generalize (σ.bind fun _ ts => primaryP S.z e ts) = mp at *
   go_wp2_with fail
   (with_reducible refine K.out.mono ?_)
   clear K
   rintro x w3 ⟨m3, ⟨v, xv, rfl, hq, hv⟩, r3⟩
   obtain ⟨kk, rfl, hk2, hk1⟩ := exV_cells hq
   obtain ⟨A, c, rfl⟩ := exsC_slice hk2
   have th := Lib.hid (there_cells (cs := [.int .i64 0, .int .i64 0, .string ⟨#[]⟩, .slice none 0 0, .int .i64 0]) (T := 202) (w := w3) (g := w.heap.size) (by rw [m3.block' (by have := HK.out.2.2.1; have := HS.out; omega) (by have := HR.out; omega)]; exact HK.out.2.2.2.1) rfl)
   have HF : Hid (Moves R w w3 ∧ Rs w3 R S mp.unit ∧ ExsC w3 (Rng wr.heap.size w3.heap.size) v.kids (.slice A v.kids.length c) ∧ (∀ a r, mp = .ok a r → v = a) ∧ w.heap.size < wr.heap.size ∧ wr.heap.size ≤ w3.heap.size) := ⟨HK.out.2.1.trans m3, r3, hk2, hv, by have := HK.out.2.2.1; have := HS.out; omega, m3.size⟩
   clear m3 hq hv r3 hk2 hk1
   go_wp2_with (refine wpList_storeN info39s rfl (.tmp 4) (.tmp 46) rfl rfl w.heap.size rfl [_, _, _, _, _] rfl rfl th.out (by simp [Value.oneCell']) ?_; intro w5 g1 g2 g3 g4 g5)
   refine bodyPost_ret (ret_cell (cs := [_, _, _, _, _]) Tryz.results225 Tryz.underlying202 rfl info39s _ _ w.heap.size rfl g1) rfl ?_
   rw [HM.out]
   obtain ⟨f1, f2, f3, f4, f5, f6⟩ := HF.out
   refine ⟨f1.low g3 (Nat.le_refl _), ⟨v, _, rfl, ⟨_, rfl, (f3.same fun q h => g4 q ?_).more fun q h => ⟨?_, ?_⟩⟩, f4⟩, f2.other HR.out g4⟩
   ·have : wr.heap.size ≤ q := h.1
    omega
   ·have : wr.heap.size ≤ q := h.1
    omega
   ·have : q < w3.heap.size := h.2
    omega
end
section
open Go.RowKit
set_option maxRecDepth 100000
set_option linter.unusedSimpArgs false
set_option linter.unusedVariables false
def lvP (z : Nat) (one : Par Ex) : Nat → Par Ex
 | 0 => levelsP z one
 | 1 => groupedP z sAnd (compareP z one)
 | 2 => compareP z one
 | 3 => sumP z one
 | 4 => groupedP z sProd one
 | _ + 5 => one
def goneG (z n : Nat) (ss : List (List Nat)) (p : Par Ex) (f : Nat) (x : Ex) : Par Ex := fun ts => if n = 2 then .ok x ts else moreG z ss p f x ts
def restG (z n : Nat) (ss : List (List Nat)) (p : Par Ex) (f : Nat) (x : Ex) : Par Ex := fun ts => if n = 2 then (if seesT z ss ts then joinedP z p x ts else .ok x ts) else moreG z ss p f x ts
theorem lvP_step {z n : Nat} {one : Par Ex} {ss : List (List Nat)} (h : lvN[n]? = some ss) (ts : List Tok) : lvP z one n ts = (lvP z one (n + 1) ts).bind fun x r => restG z n ss (lvP z one (n + 1)) r.length x r := by
 rcases n with _ | _ | _ | _ | _ | n
 ·simp [lvN] at h
  subst h
  rfl
 ·simp [lvN] at h
  subst h
  rfl
 ·simp [lvN] at h
  subst h
  rfl
 ·simp [lvN] at h
  subst h
  rfl
 ·simp [lvN] at h
  subst h
  rfl
 ·simp [lvN] at h
theorem takes_lv (z : Nat) (one : Par Ex) (h : Takes one) : ∀ n, Takes (lvP z one n)
 | 0 => takes_levels z one h
 | 1 => takes_grouped z _ _ (takes_compare z one h)
 | 2 => takes_compare z one h
 | 3 => takes_sum z one h
 | 4 => takes_grouped z _ _ h
 | _ + 5 => h
theorem rest_no {z n : Nat} {ss : List (List Nat)} {p : Par Ex} {f : Nat} {x : Ex} {ts : List Tok} (h : seesT z ss ts = false) : restG z n ss p f x ts = .ok x ts := by
 unfold restG
 split
 ·rw [if_neg (by simp [h])]
 ·exact moreG_false h f
theorem rest_yes {z n : Nat} {ss : List (List Nat)} {p : Par Ex} {f : Nat} {x : Ex} {ts : List Tok} (h : seesT z ss ts = true) : restG z n ss p (f + 1) x ts = (p ts.tail).bind fun y r => goneG z n ss p f (.mk 6 0 (peekT z ts).text [x, y] (peekT z ts).place) r := by
 unfold restG goneG
 by_cases hn : n = 2
 ·simp only [if_pos hn]
  rw [if_pos h]
  unfold joinedP
  rw [takeT_sees h]
  rfl
 ·simp only [if_neg hn]
  rw [moreG, if_pos h]
theorem rest_gone {z n : Nat} {ss : List (List Nat)} {p : Par Ex} {f : Nat} {x : Ex} (hn : n ≠ 2) (ts : List Tok) : goneG z n ss p f x ts = restG z n ss p f x ts := by
 unfold restG goneG
 rw [if_neg hn, if_neg hn]
def measR (R : Nat) (S : Src) (w : World) : Nat := match w.cell? ⟨R, 2, none⟩ with | some (.int _ 0) => 2 * (S.all.length - nextOf R w) + 2 | _ => 0
theorem meas_ok {R : Nat} {S : Src} {w : World} {u : Unit} {ts : List Tok} (h : Rs w R S (.ok u ts)) : measR R S w = 2 * ts.length + 2 := by
 obtain ⟨i, rfl, h⟩ := h
 unfold measR nextOf
 rw [h.cells.2.2.1, h.cells.2.1]
 simp
theorem meas_bad {R : Nat} {S : Src} {w : World} {c p : Nat} (h : Rs w R S (.bad c p)) : measR R S w = 0 := by
 obtain ⟨hc, i, h⟩ := h
 unfold measR
 rw [h.cells.2.2.1]
 have : ((c : Nat) : Int) ≠ 0 := by omega
 split
 ·rename_i e
  injection e with e
  injection e with _ e
  exact absurd e this
 ·rfl
theorem meas_same {R : Nat} {S : Src} {w w' : World} {σ : Res Unit} (h : Rs w R S σ) (h' : Rs w' R S σ) : measR R S w' = measR R S w := by
 cases σ with
 | ok u ts => rw [meas_ok h, meas_ok h']
 | bad c p => rw [meas_bad h, meas_bad h']
structure Com (R : Nat) (S : Src) (w : World) (L B : Nat) (ad : Addr) (σ : Res Unit) (x : Ex) (kv : Value) (wr : World) : Prop where
 st : Rs wr R S σ
 va : ExAt wr L x kv
 z : wr.heap[w.heap.size]? = some zE
 lv : LvAt wr R B ad
 kids : ExsC wr (fun q => (w.heap.size < q ∧ q ≠ L) ∧ q < wr.heap.size) x.kids kv
 mv : Moves R w wr
theorem Com.moves {R : Nat} {S : Src} {w : World} {L B : Nat} {ad : Addr} {σ σ' : Res Unit} {x : Ex} {kv : Value} {wr w' : World} (h : Com R S w L B ad σ x kv wr) (hR : R < w.heap.size) (hL : w.heap.size < L) (hB : B ≤ L) (hm : Moves R wr w') (hs : Rs w' R S σ') : Com R S w L B ad σ' x kv w' := by
 have hl := there_lt h.va.2 (by omega)
 have hsz := hm.size
 refine ⟨hs, h.va.of (hm.block' hl (by omega)), by rw [hm.block' (by omega) (by omega)]; exact h.z, h.lv.moves hm (by omega), (h.kids.same fun q hq => hm.block' hq.2 (by omega)).more fun q hq => ⟨hq.1, by omega⟩, h.mv.trans hm⟩
def LvS (R : Nat) (S : Src) (w : World) (L B : Nat) (ad : Addr) (n : Nat) (ss : List (List Nat)) (p : Par Ex) (m : Res Ex) (M : Nat) (b : Bool) (k : Nat) (wr : World) : Prop :=
 ∃ σ x A c f, Com R S w L B ad σ x (.slice A x.kids.length c) wr ∧ (∀ u ts, σ = .ok u ts → ts.length ≤ f) ∧ (b = false → Nots S.z ss σ k ∧ m = (σ.bind fun _ ts => restG S.z n ss p f x ts) ∧ measR R S wr = M) ∧ (b = true → m = (σ.bind fun _ ts => goneG S.z n ss p f x ts) ∧ measR R S wr < M)
def OutS (R : Nat) (S : Src) (w : World) (L B : Nat) (ad : Addr) (n : Nat) (ss : List (List Nat)) (p : Par Ex) (m : Res Ex) (b : Bool) (wr : World) : Prop :=
 ∃ σ x A c f, Com R S w L B ad σ x (.slice A x.kids.length c) wr ∧ (∀ u ts, σ = .ok u ts → ts.length ≤ f) ∧ (b = true → m = σ.bind fun _ ts => restG S.z n ss p f x ts) ∧ (b = false → m = σ.bind fun _ ts => .ok x ts)
theorem LvS.out_no {R : Nat} {S : Src} {w : World} {L B : Nat} {ad : Addr} {n : Nat} {ss : List (List Nat)} {p : Par Ex} {m : Res Ex} {M : Nat} {wr : World} (h : LvS R S w L B ad n ss p m M false ss.length wr) : OutS R S w L B ad n ss p m false wr ∧ measR R S wr = M := by
 obtain ⟨σ, x, A, c, f, h1, h2, h3, _⟩ := h
 obtain ⟨h3, h4, h5⟩ := h3 rfl
 refine ⟨⟨σ, x, A, c, f, h1, h2, fun e => (by cases e), fun _ => ?_⟩, h5⟩
 rw [h4]
 cases σ with
 | bad c p => rfl
 | ok u ts =>
  show restG _ _ _ _ _ _ _ = _
  rw [rest_no (nots_sees h3)]
  rfl
theorem LvS.out_two {R : Nat} {S : Src} {w : World} {L B : Nat} {ad : Addr} {ss : List (List Nat)} {p : Par Ex} {m : Res Ex} {M k : Nat} {wr : World} (h : LvS R S w L B ad 2 ss p m M true k wr) : OutS R S w L B ad 2 ss p m false wr ∧ measR R S wr < M := by
 obtain ⟨σ, x, A, c, f, h1, h2, _, h3⟩ := h
 obtain ⟨h4, h5⟩ := h3 rfl
 exact ⟨⟨σ, x, A, c, f, h1, h2, fun e => (by cases e), fun _ => h4⟩, h5⟩
theorem LvS.out_yes {R : Nat} {S : Src} {w : World} {L B : Nat} {ad : Addr} {n : Nat} {ss : List (List Nat)} {p : Par Ex} {m : Res Ex} {M k : Nat} {wr : World} (hn : n ≠ 2) (h : LvS R S w L B ad n ss p m M true k wr) : OutS R S w L B ad n ss p m true wr ∧ measR R S wr < M := by
 obtain ⟨σ, x, A, c, f, h1, h2, _, h3⟩ := h
 obtain ⟨h4, h5⟩ := h3 rfl
 refine ⟨⟨σ, x, A, c, f, h1, h2, fun _ => ?_, fun e => (by cases e)⟩, h5⟩
 rw [h4]
 cases σ with
 | bad c p => rfl
 | ok u ts => exact rest_gone hn ts
theorem OutS.start {R : Nat} {S : Src} {w : World} {L B : Nat} {ad : Addr} {n : Nat} {ss : List (List Nat)} {p : Par Ex} {m : Res Ex} {wr : World} (h : OutS R S w L B ad n ss p m true wr) : LvS R S w L B ad n ss p m (measR R S wr) false 0 wr := by
 obtain ⟨σ, x, A, c, f, h1, h2, h3, _⟩ := h
 exact ⟨σ, x, A, c, f, h1, h2, fun _ => ⟨Nots.zero _ _ _, h3 rfl, rfl⟩, fun e => (by cases e)⟩
def TwoS (ad : Addr) (n : Nat) (rd : Addr) (len k : Nat) (s : List Nat) (X : Nat) (cs : List Value) (Y : Nat) (ds : List Value) (w : World) : Prop :=
 w.cell? (ad.add n) = some (.slice (some rd) len len) ∧ w.cell? (rd.add k) = some (.string (strN s)) ∧ w.rangeAt X 0 cs ∧ w.rangeAt Y 0 ds
theorem TwoS.of {ad : Addr} {n : Nat} {rd : Addr} {len k : Nat} {s : List Nat} {X : Nat} {cs : List Value} {Y : Nat} {ds : List Value} {w w' : World} (h : TwoS ad n rd len k s X cs Y ds w) (h1 : w'.heap[ad.block]? = w.heap[ad.block]?) (h2 : w'.heap[rd.block]? = w.heap[rd.block]?) (h3 : w'.heap[X]? = w.heap[X]?) (h4 : w'.heap[Y]? = w.heap[Y]?) : TwoS ad n rd len k s X cs Y ds w' :=
 ⟨(World.cell?_of_block (a := ad.add n) (by rw [addr_block, h1])).trans h.1, (World.cell?_of_block (a := rd.add k) (by rw [addr_block, h2])).trans h.2.1, fun j v hv => by rw [World.cell?_of_block (a := ⟨X, 0 + j, none⟩) h3]; exact h.2.2.1 j v hv, fun j v hv => by rw [World.cell?_of_block (a := ⟨Y, 0 + j, none⟩) h4]; exact h.2.2.2 j v hv⟩
theorem lvN_byn : ∀ ss ∈ lvN, ∀ s ∈ ss, Byn s := by unfold lvN sOr sAnd sCmp sSum sProd Byn; decide
theorem lvN_len {n : Nat} {ss : List (List Nat)} (h : lvN[n]? = some ss) : n < 5 ∧ ss.length ≤ 6 := by
 rcases n with _ | _ | _ | _ | _ | n
 ·simp [lvN] at h
  subst h
  decide
 ·simp [lvN] at h
  subst h
  decide
 ·simp [lvN] at h
  subst h
  decide
 ·simp [lvN] at h
  subst h
  decide
 ·simp [lvN] at h
  subst h
  decide
 ·simp [lvN] at h
end
section
open Go.RowKit
set_option maxRecDepth 100000
set_option linter.unusedSimpArgs false
set_option linter.unusedVariables false
def Res.len {α : Type} : Res α → Nat
 | .ok _ r => r.length
 | .bad _ _ => 0
theorem unit_len {α : Type} {m : Res α} {u : Unit} {ts : List Tok} (h : m.unit = .ok u ts) : ts.length ≤ m.len := by
 cases m with
 | bad c p => cases h
 | ok a r => injection h with _ h; rw [← h]; exact Nat.le_refl _
def boolN : Value → Nat | .bool true => 1 | _ => 0
abbrev LevelR (R : Nat) (S : Src) (n d : Nat) (e : Par Ex) : Prop := ReadsR R S 186 #[.pointer (some ⟨R, 0, none⟩), .int .i64 n, .int .i64 d] e
theorem two_ne {n : Nat} (h : n ≠ 2) : ((n : Int) == 2) = false := by rw [beq_eq_false_iff_ne]; omega
set_option maxHeartbeats 1600000 in
theorem level_end (R : Nat) (S : Src) (d : Nat) (one : Par Ex) (h1 : OneR R S d one) (hd : d < 100) : LevelR R S 5 d one := by
 intro σ w ha
 have HR := Lib.hid ha.lt
 have h0 := open_one ha zE
 have K := Lib.hid (rlevels R _ h0.1.lt)
 have HP : Hid (∀ w1, Rs w1 R S σ → Calls Tryz.prog 225 #[.pointer (some ⟨R, 0, none⟩), .int .i64 d] w1 (RGot R S (QE w1.heap.size) w1 (σ.bind fun _ ts => one ts))) := fun w1 h => h1 σ w1 h
 have HA := Lib.hid h0
 clear ha h1 h0
 generalize (σ.bind fun _ ts => one ts) = m at *
 go_enter Tryz.func186, Tryz.ntmps186
 go_wp2_with fail
 generalize w.alloc zE = w0 at *
 (with_reducible refine K.out.mono ?_)
 clear K
 rintro x w1 ⟨ad, rfl, b1, lv⟩
 have K := Lib.hid (HP.out w1 (HA.out.1.below b1 (Nat.le_refl _)))
 have N1 : Hid (Moves R w w1 ∧ w1.heap[w.heap.size]? = some zE ∧ w.heap.size < w1.heap.size) :=
  ⟨(Moves.of_below HA.out.2.1 (Nat.le_refl _)).below b1 (Nat.le_refl _), by rw [b1.block _ (by have := HA.out.2.2.2.1; omega)]; exact HA.out.2.2.1, by have := HA.out.2.2.2.1; have := b1.size; omega⟩
 clear b1 lv HA
 go_wp2_with fail
 (with_reducible refine K.out.mono ?_)
 clear K
 rintro x w3 ⟨m3, ⟨v, xv, rfl, hq, hv⟩, r3⟩
 obtain ⟨kk, rfl, hk2, hk1⟩ := exV_cells hq
 obtain ⟨A, c, rfl⟩ := exsC_slice hk2
 have th := Lib.hid (there_cells (cs := [.int .i64 0, .int .i64 0, .string ⟨#[]⟩, .slice none 0 0, .int .i64 0]) (T := 202) (w := w3) (g := w.heap.size) (by rw [m3.block' N1.out.2.2 (by have := HR.out; omega)]; exact N1.out.2.1) rfl)
 have HF : Hid (Moves R w w3 ∧ Rs w3 R S m.unit ∧ ExsC w3 (Rng w1.heap.size w3.heap.size) v.kids (.slice A v.kids.length c) ∧ (∀ a r, m = .ok a r → v = a) ∧ w.heap.size < w1.heap.size ∧ w1.heap.size ≤ w3.heap.size) := ⟨N1.out.1.trans m3, r3, hk2, hv, N1.out.2.2, m3.size⟩
 clear m3 hq hv r3 hk2 hk1
 go_wp2_with (refine wpList_storeN info39s rfl (.tmp 6) (.tmp 21) rfl rfl w.heap.size rfl [_, _, _, _, _] rfl rfl th.out (by simp [Value.oneCell']) ?_; intro w5 g1 g2 g3 g4 g5)
 refine bodyPost_ret (ret_cell (cs := [_, _, _, _, _]) Tryz.results186 Tryz.underlying202 rfl info39s _ _ w.heap.size rfl g1) rfl ?_
 obtain ⟨f1, f2, f3, f4, f5, f6⟩ := HF.out
 refine ⟨f1.low g3 (Nat.le_refl _), ⟨v, _, rfl, ⟨_, rfl, (f3.same fun q h => g4 q ?_).more fun q h => ⟨?_, ?_⟩⟩, f4⟩, f2.other HR.out g4⟩
 ·have : w1.heap.size ≤ q := h.1
  omega
 ·have : w1.heap.size ≤ q := h.1
  omega
 ·have : q < w3.heap.size := h.2
  omega
set_option maxHeartbeats 1600000 in
theorem level_step (R : Nat) (S : Src) (d n : Nat) (ss : List (List Nat)) (hn : lvN[n]? = some ss) (one : Par Ex) (ht : Takes one) (h1 : LevelR R S (n + 1) d (lvP S.z one (n + 1))) (hd : d < 100) : LevelR R S n d (lvP S.z one n) := by
 intro σ w ha
 have HR := Lib.hid ha.lt
 have h0 := open_one ha zE
 have K := Lib.hid (rlevels R _ h0.1.lt)
 have HP := Lib.hid h1
 have HA := Lib.hid h0
 have HN := Lib.hid hn
 have HT := Lib.hid (takes_lv S.z one ht (n + 1))
 obtain ⟨hn5, hl6⟩ := lvN_len hn
 have HM : Hid ((σ.bind fun _ ts => lvP S.z one n ts) = (σ.bind fun _ ts => lvP S.z one (n + 1) ts).bind fun x r => restG S.z n ss (lvP S.z one (n + 1)) r.length x r) := by
  show _ = _
  cases σ with
  | bad c p => rfl
  | ok u ts => exact lvP_step hn ts
 have q5 : ((n : Int) == 5) = false := by rw [beq_eq_false_iff_ne]; omega
 clear ha h1 h0 hn ht
 generalize lvP S.z one (n + 1) = p at *
 generalize (σ.bind fun _ ts => lvP S.z one n ts) = m at *
 go_enter Tryz.func186, Tryz.ntmps186
 go_wp2_with fail
 generalize w.alloc zE = w0 at *
 (with_reducible refine K.out.mono ?_)
 clear K
 rintro x w1 ⟨ad, rfl, b1, lv⟩
 have K := Lib.hid (HP.out σ w1 (HA.out.1.below b1 (Nat.le_refl _)))
 have N1 : Hid (LvAt w1 R w1.heap.size ad ∧ Moves R w w1 ∧ w1.heap[w.heap.size]? = some zE ∧ w.heap.size < w1.heap.size) :=
  ⟨lv, (Moves.of_below HA.out.2.1 (Nat.le_refl _)).below b1 (Nat.le_refl _), by rw [b1.block _ (by have := HA.out.2.2.2.1; omega)]; exact HA.out.2.2.1, by have := HA.out.2.2.2.1; have := b1.size; omega⟩
 rw [show ((n + 1 : Nat) : Int) = (n : Int) + 1 by omega] at K
 generalize (σ.bind fun _ ts => p ts) = mp at *
 clear b1 lv HA
 go_wp2_with fail
 (with_reducible refine K.out.mono ?_)
 clear K
 rintro x w2 ⟨m2, ⟨v, xv, rfl, hq, hv⟩, r2⟩
 obtain ⟨kk, rfl, hk2, hk1⟩ := exV_cells hq
 obtain ⟨A, c, rfl⟩ := exsC_slice hk2
 have o2 := open_one r2 (exO v (.slice A v.kids.length c))
 have hs1 := N1.out.2.2.2
 have hs2 := m2.size
 have hrr := HR.out
 have m3 := m2.below o2.2.1 (Nat.le_refl _)
 have hO : OutS R S w w2.heap.size w1.heap.size ad n ss p m true (w2.alloc (exO v (.slice A v.kids.length c))) := by
  refine ⟨mp.unit, v, A, c, mp.len, ⟨o2.1, ExAt.of_block o2.2.2.1, by rw [m3.block' (by omega) (by omega)]; exact N1.out.2.2.1, N1.out.1.moves m3 (Nat.le_refl _), (hk2.same fun q h => o2.2.1.block q h.2).more fun q h => ?_, N1.out.2.1.trans m3⟩, fun u ts h => ?_, fun _ => ?_, fun e => (by cases e)⟩
  ·have h1 : w1.heap.size ≤ q := h.1
   have h2 : q < w2.heap.size := h.2
   refine ⟨⟨by omega, by omega⟩, ?_⟩
   have := o2.2.2.2.1
   omega
  ·exact unit_len h
  ·rw [HM.out]
   cases mp with
   | bad c p => rfl
   | ok a r => rw [hv a r rfl]; rfl
 have HO := Lib.hid hO
 have HZ : Hid (w1.heap.size ≤ w2.heap.size ∧ w.heap.size < w2.heap.size) := ⟨hs2, by omega⟩
 clear hO m2 hq hv r2 hk2 hk1 o2 hs1 hs2 hrr m3 HM
 go_wp2_with fail
 generalize w2.alloc (exO v (.slice A v.kids.length c)) = w3 at *
 generalize w2.heap.size = L at *
 generalize w1.heap.size = B at *
 clear N1
 go_loopw [9, 10, 11, 12, 13] (fun v9 _ _ _ _ wr => ∃ b : Bool, v9 = .bool b ∧ Hid (OutS R S w L B ad n ss p m b wr)) (fun v9 _ _ _ _ wr => measR R S wr + boolN v9)
 case atStart => exact ⟨true, rfl, HO.out⟩
 case round =>
  obtain ⟨b, rfl, HOut⟩ := hrel
  cases b with
  | false =>
   obtain ⟨σ', x', A', c', f', com, hf, _, hm⟩ := HOut.out
   have HF : Hid (Com R S w L B ad σ' x' (.slice A' x'.kids.length c') wr ∧ m = (σ'.bind fun _ ts => .ok x' ts)) := ⟨com, hm rfl⟩
   obtain ⟨l0, l1, l2, l3, l4⟩ := com.va.cells
   have th := Lib.hid (there_cells (cs := [.int .i64 0, .int .i64 0, .string ⟨#[]⟩, .slice none 0 0, .int .i64 0]) (T := 202) (w := wr) (g := w.heap.size) com.z rfl)
   clear com hf hm
   go_wp2_with (refine wpList_storeN info39s rfl (.tmp 6) (.tmp 72) rfl rfl w.heap.size rfl [_, _, _, _, _] rfl rfl th.out (by simp [Value.oneCell']) ?_; intro w5 g1 g2 g3 g4 g5)
   refine bodyPost_ret (ret_cell (cs := [_, _, _, _, _]) Tryz.results186 Tryz.underlying202 rfl info39s _ _ w.heap.size rfl g1) rfl ?_
   obtain ⟨com, hm⟩ := HF.out
   refine ⟨com.mv.low g3 (Nat.le_refl _), ⟨x', _, rfl, ⟨_, rfl, (com.kids.same fun q h => g4 q (by omega)).more fun q h => ⟨by omega, by omega⟩⟩, fun a r h => ?_⟩, ?_⟩
   ·rw [hm] at h
    cases σ' with
    | bad c p => cases h
    | ok u ts => injection h with h _
   ·have hu : m.unit = σ' := by rw [hm]; cases σ' <;> rfl
    rw [hu]
    exact com.st.other HR.out g4
  | true =>
   obtain ⟨M, hM⟩ : ∃ M, M = measR R S wr := ⟨_, rfl⟩
   have hl := HOut.out.start
   rw [← hM] at hl
   have HL := Lib.hid hl
   have HMM := Lib.hid hM
   clear hl hM
   go_wp2
   go_loopw [9, 10, 11, 12, 13] (fun v9 v10 _ _ _ wi => ∃ (b : Bool) (k : Nat), v9 = .bool b ∧ v10 = .int .i64 k ∧ k ≤ ss.length ∧ Hid (LvS R S w L B ad n ss p m M b k wi)) (fun _ v10 _ _ _ _ => ss.length - (intOf v10).toNat)
   case atStart => exact ⟨false, 0, rfl, rfl, Nat.zero_le _, HL.out⟩
   case round =>
    obtain ⟨b, k, rfl, rfl, hk, HK⟩ := hrel
    have hcom : ∃ rd, wr.cell? (ad.add n) = some (.slice (some rd) ss.length ss.length) ∧ RowAt wr R B rd ss := by
     obtain ⟨_, _, _, _, _, h, _⟩ := HK.out
     exact h.lv.2.2 n ss HN.out
    obtain ⟨rd, c1, hrow⟩ := hcom
    have HRow := Lib.hid hrow
    clear hrow
    cases b with
    | true =>
     by_cases hn2 : n = 2
     ·have HQ : Hid (OutS R S w L B ad n ss p m false wr ∧ measR R S wr < M) := by subst hn2; exact HK.out.out_two
      have q2 : ((n : Int) == 2) = true := by rw [hn2]; rfl
      clear hn2
      by_cases hlt : k < ss.length
      ·go_wp2
       go_roundw
       case rel => exact ⟨false, rfl, HQ.out.1⟩
       case measure => have := HQ.out.2; have := HMM.out; simp [boolN]; omega
      ·obtain rfl : k = ss.length := by omega
       go_wp2
       go_roundw
       case rel => exact ⟨false, rfl, HQ.out.1⟩
       case measure => have := HQ.out.2; have := HMM.out; simp [boolN]; omega
     ·have HQ := Lib.hid (HK.out.out_yes hn2)
      have q2 := two_ne hn2
      clear hn2
      by_cases hlt : k < ss.length
      ·go_wp2
       go_roundw
       case rel => exact ⟨true, rfl, HQ.out.1⟩
       case measure => have := HQ.out.2; have := HMM.out; simp [boolN]; omega
      ·obtain rfl : k = ss.length := by omega
       go_wp2
       go_roundw
       case rel => exact ⟨true, rfl, HQ.out.1⟩
       case measure => have := HQ.out.2; have := HMM.out; simp [boolN]; omega
    | false =>
     by_cases hlt : k < ss.length
     ·have hg : ss[k]? = some ss[k] := List.getElem?_eq_getElem hlt
      generalize ss[k] = s at hg
      have HG := Lib.hid hg
      obtain ⟨σ1, x1, A1, e1, f1, com, hf, hno, _⟩ := HK.out
      obtain ⟨hno, hm1, hme⟩ := hno rfl
      have K := Lib.hid (rplaceR R S σ1 wr com.st)
      have HC := Lib.hid com
      have HF1 := Lib.hid hf
      have HNo := Lib.hid hno
      have HM1 := Lib.hid hm1
      have HMe := Lib.hid hme
      clear com hf hno hm1 hme hg
      go_wp2_with fail
      (with_reducible refine K.out.mono ?_)
      clear K
      rintro x w4 ⟨q, rfl, hq, b4⟩
      have com4 := HC.out.moves HR.out HZ.out.2 HZ.out.1 (Moves.of_below b4 (Nat.le_refl _)) (HC.out.st.below b4 (Nat.le_refl _))
      clear c1 HRow
      obtain ⟨rd1, c1, hrow⟩ := com4.lv.2.2 n ss HN.out
      have c2 := hrow.2.2 k s HG.out
      have K := Lib.hid (rtake R S σ1 s _ w4 com4.st rfl (lvN_byn ss (List.mem_of_getElem? HN.out) s (List.mem_of_getElem? HG.out)))
      have H4 := Lib.hid com4
      have HQq := Lib.hid hq
      clear com4 b4 hrow hq
      cases hb : isR S.z s σ1 with
      | false =>
       have HE : Hid (Nots S.z ss σ1 (k + 1) ∧ passR S.z s σ1 = σ1) := ⟨HNo.out.succ HG.out hb, pass_false hb⟩
       rw [hb] at K
       clear hb
       go_wp2_with fail
       (with_reducible refine K.out.mono ?_)
       rintro x w5 ⟨rfl, h1, h2⟩
       have HQ5 : Hid (LvS R S w L B ad n ss p m M false (k + 1) w5) := by
        rw [HE.out.2] at h2
        exact ⟨σ1, x1, A1, e1, f1, H4.out.moves HR.out HZ.out.2 HZ.out.1 h1 h2, HF1.out, fun _ => ⟨HE.out.1, HM1.out, by rw [meas_same HC.out.st h2]; exact HMe.out⟩, fun e => (by cases e)⟩
       clear h1 h2 K
       go_wp2
       go_roundw
       case rel => exact ⟨false, k + 1, rfl, by go_num, by omega, HQ5.out⟩
       case measure => simp [intOf]; omega
      | true =>
       obtain ⟨u, ts, rfl, hs1, hp1⟩ := pass_true hb
       have HS : Hid (seesT S.z ss ts = true ∧ (peekT S.z ts).text = s ∧ q = (peekT S.z ts).place) := ⟨(sees_of (List.mem_of_getElem? HG.out) hs1).1, (sees_of (List.mem_of_getElem? HG.out) hs1).2, HQq.out u ts rfl⟩
       have hle := HF1.out u ts rfl
       have hcons := sees_cons HS.out.1
       obtain ⟨f', rfl⟩ : ∃ f', f1 = f' + 1 := ⟨f1 - 1, by omega⟩
       have HM2 : Hid (m = (p ts.tail).bind fun y r => goneG S.z n ss p f' (.mk 6 0 s [x1, y] q) r) := by
        show _ = _
        rw [HM1.out]
        show restG _ _ _ _ _ _ _ = _
        rw [rest_yes HS.out.1, HS.out.2.1, HS.out.2.2]
       have HLn : Hid (ts.tail.length + 1 = ts.length ∧ ts.length ≤ f' + 1 ∧ M = 2 * ts.length + 2) := ⟨hcons, hle, by rw [← HMe.out, meas_ok HC.out.st]⟩
       rw [hb, hp1] at K
       clear hb hs1 hp1 hle hcons
       go_wp2_with fail
       (with_reducible refine K.out.mono ?_)
       clear K
       rintro x w5 ⟨rfl, h1, h2⟩
       have com5 := H4.out.moves HR.out HZ.out.2 HZ.out.1 h1 h2
       have b6 := below_alloc w5 (exO x1 (.slice A1 x1.kids.length e1))
       have com6 := com5.moves HR.out HZ.out.2 HZ.out.1 (Moves.of_below b6 (Nat.le_refl _)) (com5.st.below b6 (Nat.le_refl _))
       have K := Lib.hid (HP.out _ _ com6.st)
       have HX : Hid ((w5.alloc (exO x1 (.slice A1 x1.kids.length e1))).heap[w5.heap.size]? = some (exO x1 (.slice A1 x1.kids.length e1)) ∧ (w5.alloc (exO x1 (.slice A1 x1.kids.length e1))).heap.size = w5.heap.size + 1 ∧ L < w5.heap.size) := ⟨heap_alloc_new w5 _, by simp, there_lt com5.va.2 (by omega)⟩
       obtain ⟨l0, l1, l2, l3, l4⟩ := com5.va.cells
       have H6 := Lib.hid com6
       rw [show ((n + 1 : Nat) : Int) = (n : Int) + 1 by omega] at K
       rw [show (Res.bind (.ok () ts.tail) fun _ ts => p ts) = p ts.tail from rfl] at K
       clear h1 h2 com5 com6 b6 c1 c2
       go_wp2_with fail
       generalize w5.alloc (exO x1 (.slice A1 x1.kids.length e1)) = w6 at *
       (with_reducible refine K.out.mono ?_)
       clear K l0 l1 l2 l3 l4
       rintro x w7 ⟨m7, ⟨y, yv, rfl, hqy, hv⟩, r7⟩
       obtain ⟨kk, rfl, hk2, hk1⟩ := exV_cells hqy
       obtain ⟨A2, e2, rfl⟩ := exsC_slice hk2
       have o7 := open_one r7 (exO y (.slice A2 y.kids.length e2))
       have m8 := m7.below o7.2.1 (Nat.le_refl _)
       have com8 := H6.out.moves HR.out HZ.out.2 HZ.out.1 m8 o7.1
       have hx2 := HX.out.2.1
       have hx3 := HX.out.2.2
       have hz2 := HZ.out.2
       have hrr := HR.out
       have hs7 := m7.size
       obtain ⟨rd2, c1, hrow⟩ := com8.lv.2.2 n ss HN.out
       have c2 := hrow.2.2 k s HG.out
       have H8 : Hid ((w7.alloc (exO y (.slice A2 y.kids.length e2))).heap[w5.heap.size]? = some (exO x1 (.slice A1 x1.kids.length e1)) ∧ (w7.alloc (exO y (.slice A2 y.kids.length e2))).heap[w7.heap.size]? = some (exO y (.slice A2 y.kids.length e2)) ∧ (w7.alloc (exO y (.slice A2 y.kids.length e2))).heap.size = w7.heap.size + 1 ∧ w6.heap.size ≤ w7.heap.size ∧ ExsC (w7.alloc (exO y (.slice A2 y.kids.length e2))) (Rng w6.heap.size w7.heap.size) y.kids (.slice A2 y.kids.length e2)) :=
        ⟨by rw [m8.block' (by omega) (by omega)]; exact HX.out.1, o7.2.2.1, o7.2.2.2.1, hs7, hk2.same fun q h => o7.2.1.block q h.2⟩
       have HC8 := Lib.hid com8
       have HRw := Lib.hid hrow
       have HV := Lib.hid hv
       have HT8 : Hid (TwoS ad n rd2 ss.length k s w5.heap.size [.int .i64 x1.op, .int .i64 x1.num, .string (strN x1.text), .slice A1 x1.kids.length e1, .int .i64 x1.place] w7.heap.size [.int .i64 y.op, .int .i64 y.num, .string (strN y.text), .slice A2 y.kids.length e2, .int .i64 y.place] (w7.alloc (exO y (.slice A2 y.kids.length e2)))) := ⟨c1, c2, range_of (cs := [_, _, _, _, _]) H8.out.1, range_of (cs := [_, _, _, _, _]) H8.out.2.1⟩
       clear m7 hqy hv r7 hk2 hk1 o7 m8 com8 hx2 hx3 hz2 hrr hs7 hrow c1 c2
       go_wp2_with fail
       generalize w7.alloc (exO y (.slice A2 y.kids.length e2)) = w8 at *
       have HSd : Hid (∀ w', TwoS ad n rd2 ss.length k s w5.heap.size [.int .i64 x1.op, .int .i64 x1.num, .string (strN x1.text), .slice A1 x1.kids.length e1, .int .i64 x1.place] w7.heap.size [.int .i64 y.op, .int .i64 y.num, .string (strN y.text), .slice A2 y.kids.length e2, .int .i64 y.place] w' → w'.cell? (ad.add n) = some (.slice (some rd2) ss.length ss.length) ∧ w'.cell? (rd2.add k) = some (.string (strN s))) := fun w' h => ⟨h.1, h.2.1⟩
       refine wp_region_held_drew (S := TwoS ad n rd2 ss.length k s w5.heap.size [.int .i64 x1.op, .int .i64 x1.num, .string (strN x1.text), .slice A1 x1.kids.length e1, .int .i64 x1.place] w7.heap.size [.int .i64 y.op, .int .i64 y.num, .string (strN y.text), .slice A2 y.kids.length e2, .int .i64 y.place]) (by kernel_rfl) (HT8.out.of rfl rfl rfl rfl) (fun hHeld => ?_)
       refine wpAnyH_take (i := 0) (v := ?v0) rfl (by kernel_rfl) (by kernel_rfl) (by kernel_rfl) (fun _ _ _ h => h) (Or.inl ⟨by kernel_rfl, ?y0⟩) (by assumption) ?r0
       case y0 => (intro w hSw; (try dsimp only at hSw); go_simp; (try rw [if_pos (by omega)]); (try with_reducible rfl))
       try simp only [Act.put, List.getElem_toArray, List.getElem_cons_zero, List.getElem_cons_succ, List.setIfInBounds_toArray, List.set_cons_zero, List.set_cons_succ]
       refine wpAnyH_take (i := 1) (v := ?v1) rfl (by kernel_rfl) (by kernel_rfl) (by kernel_rfl) (fun _ _ _ h => h) (Or.inl ⟨by kernel_rfl, ?y1⟩) (by assumption) ?r1
       case y1 => (intro w hSw; (try dsimp only at hSw); go_simp; (try rw [if_pos (by omega)]); (try with_reducible rfl))
       try simp only [Act.put, List.getElem_toArray, List.getElem_cons_zero, List.getElem_cons_succ, List.setIfInBounds_toArray, List.set_cons_zero, List.set_cons_succ]
       refine wpAnyH_take (i := 2) (v := ?v2) rfl (by kernel_rfl) (by kernel_rfl) (by kernel_rfl) (fun _ _ _ h => h) (Or.inl ⟨by kernel_rfl, ?y2⟩) (by assumption) ?r2
       case y2 => (intro w hSw; (try dsimp only at hSw); go_simp; (try rw [if_pos (by omega)]); (try with_reducible rfl))
       try simp only [Act.put, List.getElem_toArray, List.getElem_cons_zero, List.getElem_cons_succ, List.setIfInBounds_toArray, List.set_cons_zero, List.set_cons_succ]
       refine wpAnyH_take (i := 3) (v := ?v3) rfl (by kernel_rfl) (by kernel_rfl) (by kernel_rfl) (fun _ _ _ h => h) (Or.inl ⟨by kernel_rfl, ?y3⟩) (by assumption) ?r3
       case y3 => (intro w hSw; have q1 := (HSd.out _ hSw).1; (try dsimp only at hSw); go_simp; (try rw [if_pos (by omega)]); (try with_reducible rfl))
       try simp only [Act.put, List.getElem_toArray, List.getElem_cons_zero, List.getElem_cons_succ, List.setIfInBounds_toArray, List.set_cons_zero, List.set_cons_succ]
       refine wpAnyH_take (i := 4) (v := ?v4) rfl (by kernel_rfl) (by kernel_rfl) (by kernel_rfl) (fun _ _ _ h => h) (Or.inl ⟨by kernel_rfl, ?y4⟩) (by assumption) ?r4
       case y4 => (intro w hSw; (try dsimp only at hSw); go_simp; (try rw [if_pos (by omega)]); (try with_reducible rfl))
       try simp only [Act.put, List.getElem_toArray, List.getElem_cons_zero, List.getElem_cons_succ, List.setIfInBounds_toArray, List.set_cons_zero, List.set_cons_succ]
       refine wpAnyH_take (i := 5) (v := ?v5) rfl (by kernel_rfl) (by kernel_rfl) (by kernel_rfl) (fun _ _ _ h => h) (Or.inl ⟨by kernel_rfl, ?y5⟩) (by assumption) ?r5
       case y5 => (intro w hSw; (try dsimp only at hSw); go_simp; (try rw [if_pos (by omega)]); (try with_reducible rfl))
       try simp only [Act.put, List.getElem_toArray, List.getElem_cons_zero, List.getElem_cons_succ, List.setIfInBounds_toArray, List.set_cons_zero, List.set_cons_succ]
       refine wpAnyH_take (i := 6) (v := ?v6) rfl (by kernel_rfl) (by kernel_rfl) (by kernel_rfl) (fun _ _ _ h => h) (Or.inl ⟨by kernel_rfl, ?y6⟩) (by assumption) ?r6
       case y6 => (intro w hSw; have q1 := (HSd.out _ hSw).2; (try dsimp only at hSw); go_simp; (try rw [if_pos (by omega)]); (try with_reducible rfl))
       try simp only [Act.put, List.getElem_toArray, List.getElem_cons_zero, List.getElem_cons_succ, List.setIfInBounds_toArray, List.set_cons_zero, List.set_cons_succ]
       refine wpAnyH_take (i := 7) (v := .agg #[.int .i64 x1.op, .int .i64 x1.num, .string (strN x1.text), .slice A1 x1.kids.length e1, .int .i64 x1.place]) rfl (by kernel_rfl) (by kernel_rfl) (by kernel_rfl) (fun _ _ _ h => h) (yieldsIf_load_mid (by kernel_rfl) 202 (.tmp 12) rfl w5.heap.size 0 rfl _ _ (fun w' h => h.2.2.1) Tryz.underlying202 rfl info39s) (by assumption) ?r7
       try simp only [Act.put, List.getElem_toArray, List.getElem_cons_zero, List.getElem_cons_succ, List.setIfInBounds_toArray, List.set_cons_zero, List.set_cons_succ]
       refine wpAnyH_take (i := 8) (v := .agg #[.int .i64 y.op, .int .i64 y.num, .string (strN y.text), .slice A2 y.kids.length e2, .int .i64 y.place]) rfl (by kernel_rfl) (by kernel_rfl) (by kernel_rfl) (fun _ _ _ h => h) (yieldsIf_load_mid (by kernel_rfl) 202 (.tmp 13) rfl w7.heap.size 0 rfl _ _ (fun w' h => h.2.2.2) Tryz.underlying202 rfl info39s) (by assumption) ?r8
       try simp only [Act.put, List.getElem_toArray, List.getElem_cons_zero, List.getElem_cons_succ, List.setIfInBounds_toArray, List.set_cons_zero, List.set_cons_succ]
       refine wpAnyH_take (i := 10) (v := ?v10) rfl (by kernel_rfl) (by kernel_rfl) (by kernel_rfl) (fun _ _ _ h => h) (Or.inl ⟨by kernel_rfl, ?y10⟩) (by assumption) ?r10
       case y10 => (intro w hSw; (try dsimp only at hSw); go_simp; (try rw [if_pos (by omega)]); (try with_reducible rfl))
       try simp only [Act.put, List.getElem_toArray, List.getElem_cons_zero, List.getElem_cons_succ, List.setIfInBounds_toArray, List.set_cons_zero, List.set_cons_succ]
       refine wpAnyH_ready (rs := [9]) (by kernel_rfl) (by simp) ?_
       refine AllReadyH.cons rfl (fun K hK => ?_) AllReadyH.nil
       go_simp
       have N9 : Hid (Below w8.heap.size w8 (w8.alloc (.cells #[.int .i64 x1.op, .int .i64 x1.num, .string (strN x1.text), .slice A1 x1.kids.length e1, .int .i64 x1.place, .int .i64 y.op, .int .i64 y.num, .string (strN y.text), .slice A2 y.kids.length e2, .int .i64 y.place] 202)).drew ∧ (w8.alloc (.cells #[.int .i64 x1.op, .int .i64 x1.num, .string (strN x1.text), .slice A1 x1.kids.length e1, .int .i64 x1.place, .int .i64 y.op, .int .i64 y.num, .string (strN y.text), .slice A2 y.kids.length e2, .int .i64 y.place] 202)).drew.heap[w8.heap.size]? = some (.cells #[.int .i64 x1.op, .int .i64 x1.num, .string (strN x1.text), .slice A1 x1.kids.length e1, .int .i64 x1.place, .int .i64 y.op, .int .i64 y.num, .string (strN y.text), .slice A2 y.kids.length e2, .int .i64 y.place] 202 (0, 0)) ∧ (w8.alloc (.cells #[.int .i64 x1.op, .int .i64 x1.num, .string (strN x1.text), .slice A1 x1.kids.length e1, .int .i64 x1.place, .int .i64 y.op, .int .i64 y.num, .string (strN y.text), .slice A2 y.kids.length e2, .int .i64 y.place] 202)).drew.heap.size = w8.heap.size + 1) :=
        ⟨(below_alloc w8 _).drew, heap_alloc_new w8 _, by show (w8.alloc _).heap.size = _; simp⟩
       have hs8 := H8.out.2.2.1
       have hs7 := H8.out.2.2.2.1
       have hx2 := HX.out.2.1
       have hx3 := HX.out.2.2
       have hz1 := HZ.out.1
       have hz2 := HZ.out.2
       have had : ad.block < B := HC8.out.lv.2.1
       have hrd : rd2.block < B := HRw.out.2.1
       have hS9 := HT8.out.of (N9.out.1.block ad.block (by omega)) (N9.out.1.block rd2.block (by omega)) (N9.out.1.block w5.heap.size (by omega)) (N9.out.1.block w7.heap.size (by omega))
       have N10 : Hid (Com R S w L B ad (p ts.tail).unit x1 (.slice A1 x1.kids.length e1) (w8.alloc (.cells #[.int .i64 x1.op, .int .i64 x1.num, .string (strN x1.text), .slice A1 x1.kids.length e1, .int .i64 x1.place, .int .i64 y.op, .int .i64 y.num, .string (strN y.text), .slice A2 y.kids.length e2, .int .i64 y.place] 202)).drew) := HC8.out.moves HR.out HZ.out.2 HZ.out.1 (Moves.of_below N9.out.1 (Nat.le_refl _)) (HC8.out.st.below N9.out.1 (Nat.le_refl _))
       have NY : Hid (ExsC (w8.alloc (.cells #[.int .i64 x1.op, .int .i64 x1.num, .string (strN x1.text), .slice A1 x1.kids.length e1, .int .i64 x1.place, .int .i64 y.op, .int .i64 y.num, .string (strN y.text), .slice A2 y.kids.length e2, .int .i64 y.place] 202)).drew (Rng w6.heap.size w7.heap.size) y.kids (.slice A2 y.kids.length e2)) := H8.out.2.2.2.2.same fun q h => N9.out.1.block q (by have := h.2; omega)
       have HAr : Hid (ad.block ≠ L ∧ rd2.block ≠ L ∧ w5.heap.size ≠ L ∧ w7.heap.size ≠ L ∧ L ≠ w8.heap.size ∧ w7.heap.size < w8.heap.size) := ⟨by omega, by omega, by omega, by omega, by omega, by omega⟩
       clear hs8 hs7 hx2 hx3 hz1 hz2 had hrd
       generalize (w8.alloc (.cells #[.int .i64 x1.op, .int .i64 x1.num, .string (strN x1.text), .slice A1 x1.kids.length e1, .int .i64 x1.place, .int .i64 y.op, .int .i64 y.num, .string (strN y.text), .slice A2 y.kids.length e2, .int .i64 y.place] 202)).drew = w9 at *
       refine hK.out _ _ hS9 (fun hHeld => ?_)
       clear hK K
       refine wpAnyH_take (i := 11) (v := ?v11) rfl (by kernel_rfl) (by kernel_rfl) (by kernel_rfl) (fun _ _ _ h => h) (Or.inl ⟨by kernel_rfl, ?y11⟩) (by assumption) ?r11
       case y11 => (intro w hSw; (try dsimp only at hSw); go_simp; (try rw [if_pos (by omega)]); (try with_reducible rfl))
       try simp only [Act.put, List.getElem_toArray, List.getElem_cons_zero, List.getElem_cons_succ, List.setIfInBounds_toArray, List.set_cons_zero, List.set_cons_succ]
       obtain ⟨z0, z1, z2, z3, z4⟩ := N10.out.va.cells
       have hff : ∀ j, j < 5 → w9.frozen? ⟨L, j, none⟩ = false := fun j hj => by have := (N10.out.va.2 j hj).2; simpa using this
       have ff0 := hff 0 (by omega)
       have ff1 := hff 1 (by omega)
       have ff2 := hff 2 (by omega)
       have ff3 := hff 3 (by omega)
       have ff4 := hff 4 (by omega)
       clear hff
       refine wpAnyH_ready (rs := [12]) (by kernel_rfl) (by simp) ?_
       refine AllReadyH.cons rfl (fun K hK => ?_) AllReadyH.nil
       go_simp
       have hb := below_cells L 0 [.int .i64 6, .int .i64 0, .string (strN s), .slice (some ⟨w8.heap.size, 0, none⟩) 2 2, .int .i64 q] w9
       have hrg := World.rangeAt_setCells_same w9 L 0 [.int .i64 6, .int .i64 0, .string (strN s), .slice (some ⟨w8.heap.size, 0, none⟩) 2 2, .int .i64 q] N10.out.va.2
       have hth := World.there_setCells N10.out.va.2 L 0 [.int .i64 6, .int .i64 0, .string (strN s), .slice (some ⟨w8.heap.size, 0, none⟩) 2 2, .int .i64 q]
       change K _ (w9.setCells L 0 [.int .i64 6, .int .i64 0, .string (strN s), .slice (some ⟨w8.heap.size, 0, none⟩) 2 2, .int .i64 q])
       generalize w9.setCells L 0 [.int .i64 6, .int .i64 0, .string (strN s), .slice (some ⟨w8.heap.size, 0, none⟩) 2 2, .int .i64 q] = w10 at *
       refine hK.out _ _ (hHeld.of (hb.2.1 _ HAr.out.1) (hb.2.1 _ HAr.out.2.1) (hb.2.1 _ HAr.out.2.2.1) (hb.2.1 _ HAr.out.2.2.2.1)) (fun _ => ?_)
       clear hK K hHeld hS9 z0 z1 z2 z3 z4 ff0 ff1 ff2 ff3 ff4
       refine wpAnyH_done (by kernel_rfl) ?_ _
       have HBl := Lib.hid hb
       have HV10 : Hid (w10.rangeAt L 0 [.int .i64 6, .int .i64 0, .string (strN s), .slice (some ⟨w8.heap.size, 0, none⟩) 2 2, .int .i64 q] ∧ w10.there L 0 5) := ⟨hrg, hth⟩
       clear hb hrg hth
       have HQ : Hid (LvS R S w L B ad n ss p m M true (k + 1) w10) := by
        obtain ⟨e4, e5, e6⟩ := HBl.out
        obtain ⟨g1, g2, g3, g4, g5, g6⟩ := HAr.out
        have hcom := N10.out
        have hz1 := HZ.out.1
        have hz2 := HZ.out.2
        have hrr := HR.out
        have s9 := N9.out.2.2
        have hx2 := HX.out.2.1
        have hx3 := HX.out.2.2
        have hs7 := H8.out.2.2.2.1
        have st10 := hcom.st.other (g := L) (by omega) e5
        refine ⟨(p ts.tail).unit, .mk 6 0 s [x1, y] q, some ⟨w8.heap.size, 0, none⟩, 2, f', ⟨st10, HV10.out, by rw [e5 _ (by omega)]; exact hcom.z, hcom.lv.other e5 hz1, ?_, hcom.mv.low e4 (by omega)⟩, fun u' r' h => ?_, fun e => (by cases e), fun _ => ⟨?_, ?_⟩⟩
        ·refine exs_two (k := .slice A1 x1.kids.length e1) (k2 := .slice A2 y.kids.length e2) (by rw [e5 _ (by omega)]; exact N9.out.2.1) ⟨⟨by omega, by omega⟩, by omega⟩ ((hcom.kids.same fun q h => e5 q h.1.2).more fun q h => ⟨h.1, by rw [e6]; exact h.2⟩) ((NY.out.same fun q h => e5 q ?_).more fun q h => ?_)
         ·have h1 : w6.heap.size ≤ q := h.1
          omega
         ·have h1 : w6.heap.size ≤ q := h.1
          have h2 : q < w7.heap.size := h.2
          exact ⟨⟨by omega, by omega⟩, by omega⟩
        ·cases hp : p ts.tail with
         | bad c0 p0 => rw [hp] at h; cases h
         | ok a r =>
          rw [hp] at h
          injection h with _ h
          have := HT.out _ _ _ hp
          have := HLn.out
          rw [← h]
          omega
        ·rw [HM2.out]
         cases hp : p ts.tail with
         | bad c0 p0 => rfl
         | ok a r => rw [HV.out a r hp]; rfl
        ·cases hp : p ts.tail with
         | bad c0 p0 =>
          rw [hp] at st10
          rw [meas_bad st10, HLn.out.2.2]
          omega
         | ok a r =>
          rw [hp] at st10
          have := HT.out _ _ _ hp
          have := HLn.out
          rw [meas_ok st10]
          omega
       clear HBl HV10
       go_wp2
       go_roundw
       case rel => exact ⟨true, k + 1, rfl, by go_num, by omega, HQ.out⟩
       case measure => simp [intOf]; omega
     ·obtain rfl : k = ss.length := by omega
      have HQ := Lib.hid HK.out.out_no
      by_cases hn2 : n = 2
      ·have q2 : ((n : Int) == 2) = true := by rw [hn2]; rfl
       clear hn2
       go_wp2
       go_roundw
       case rel => exact ⟨false, rfl, HQ.out.1⟩
       case measure => have := HQ.out.2; have := HMM.out; simp [boolN]; omega
      ·have q2 := two_ne hn2
       clear hn2
       go_wp2
       go_roundw
       case rel => exact ⟨false, rfl, HQ.out.1⟩
       case measure => have := HQ.out.2; have := HMM.out; simp [boolN]; omega
end
end Go.Proofs.YtcilgkdnjgmogaaGreatDoor
