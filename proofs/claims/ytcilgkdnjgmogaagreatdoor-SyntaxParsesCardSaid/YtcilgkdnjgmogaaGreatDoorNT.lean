/- The document's own reading of a program. -/
import Derived.Test.YtcilgkdnjgmogaaGreatDoorNS
import Derived.Test.YtcilgkdnjgmogaaGreatDoorMF
import Derived.Deep.CutBlock
import Derived.Test.YtcilgkdnjgmogaaGreatDoorNP
namespace Go.Proofs.YtcilgkdnjgmogaaGreatDoor
section
open Go.RowKit
set_option maxRecDepth 100000
set_option linter.unusedSimpArgs false
set_option linter.unusedVariables false
def fuZ : Obj := .cells #[.string ⟨#[]⟩, .slice none 0 0, .int .i64 0, .slice none 0 0, .int .i64 0] 69
structure FnC (R : Nat) (S : Src) (w : World) (L G lo : Nat) (s : List Nat) (l : List (List Nat × Nat)) (X : Value) (ty : Int) (B : Value) (p : Int) (σ : Res Unit) (wr : World) : Prop where
 st : Rs wr R S σ
 va : VarAt wr L [.string (strN s), X, .int .i64 ty, B, .int .i64 p]
 own : wr.ownsRow lo 87 2 X l.length (pasC l)
 mv : Moves R w wr
 z : wr.heap[G]? = some fuZ
 hR : R < w.heap.size
 hL : w.heap.size ≤ L ∧ L < lo
 hG : w.heap.size ≤ G ∧ G < lo
 ne : G ≠ L
 lo : lo ≤ wr.heap.size
section
variable {R : Nat} {S : Src} {w : World} {L G lo : Nat} {s : List Nat} {l : List (List Nat × Nat)} {X B : Value} {ty p : Int} {σ σ' : Res Unit} {wr w' : World}
theorem FnC.moves (h : FnC R S w L G lo s l X ty B p σ wr) (hm : Moves R wr w') (hs : Rs w' R S σ') : FnC R S w L G lo s l X ty B p σ' w' := by
 have h1 := h.hR
 have h2 := h.hL
 have h3 := h.lo
 have h4 := h.hG
 refine ⟨hs, h.va.of (hm.block' (by omega) (by omega)), h.own.kept hm ?_, h.mv.trans hm, by rw [hm.block' (by omega) (by omega)]; exact h.z, h1, h2, h4, h.ne, Nat.le_trans h3 hm.size⟩
 cases hv : X.ownBlock with
 | none => exact .inl rfl
 | some g =>
  refine .inr fun e => ?_
  injection e with e
  have := (h.own.lt g hv).1
  omega
theorem FnC.setc (h : FnC R S w L G lo s l X ty B p σ wr) (i : Nat) (v : Value) : Rs (wr.setCell ⟨L, i, none⟩ v) R S σ ∧ (wr.setCell ⟨L, i, none⟩ v).ownsRow lo 87 2 X l.length (pasC l) ∧ Moves R w (wr.setCell ⟨L, i, none⟩ v) ∧ lo ≤ (wr.setCell ⟨L, i, none⟩ v).heap.size ∧ (wr.setCell ⟨L, i, none⟩ v).heap[G]? = some fuZ := by
 have h1 := h.hR
 have h2 := h.hL
 refine ⟨h.st.other (by omega) (fun k hk => set_other k hk), ?_, h.mv.low set_below h2.1, by rw [set_size]; exact h.lo, by rw [set_other G h.ne]; exact h.z⟩
 refine h.own.kept (Moves.set (R := L) i v) ?_
 cases hv : X.ownBlock with
 | none => exact .inl rfl
 | some g =>
  refine .inr fun e => ?_
  injection e with e
  have := (h.own.lt g hv).1
  omega
theorem FnC.set0 (h : FnC R S w L G lo s l X ty B p σ wr) (s' : List Nat) : FnC R S w L G lo s' l X ty B p σ (wr.setCell ⟨L, 0, none⟩ (.string (strN s'))) :=
 ⟨(h.setc 0 _).1, h.va.set 0 _, (h.setc 0 _).2.1, (h.setc 0 _).2.2.1, (h.setc 0 _).2.2.2.2, h.hR, h.hL, h.hG, h.ne, (h.setc 0 _).2.2.2.1⟩
theorem FnC.set2 (h : FnC R S w L G lo s l X ty B p σ wr) (t : Int) : FnC R S w L G lo s l X t B p σ (wr.setCell ⟨L, 2, none⟩ (.int .i64 t)) :=
 ⟨(h.setc 2 _).1, h.va.set 2 _, (h.setc 2 _).2.1, (h.setc 2 _).2.2.1, (h.setc 2 _).2.2.2.2, h.hR, h.hL, h.hG, h.ne, (h.setc 2 _).2.2.2.1⟩
theorem FnC.set3 (h : FnC R S w L G lo s l X ty B p σ wr) (V : Value) : FnC R S w L G lo s l X ty V p σ (wr.setCell ⟨L, 3, none⟩ V) :=
 ⟨(h.setc 3 _).1, h.va.set 3 _, (h.setc 3 _).2.1, (h.setc 3 _).2.2.1, (h.setc 3 _).2.2.2.2, h.hR, h.hL, h.hG, h.ne, (h.setc 3 _).2.2.2.1⟩
theorem FnC.cells (h : FnC R S w L G lo s l X ty B p σ wr) : (wr.cell? ⟨L, 0, none⟩ = some (.string (strN s)) ∧ wr.cell? ⟨L, 1, none⟩ = some X ∧ wr.cell? ⟨L, 2, none⟩ = some (.int .i64 ty) ∧ wr.cell? ⟨L, 3, none⟩ = some B ∧ wr.cell? ⟨L, 4, none⟩ = some (.int .i64 p)) ∧ (wr.frozen? ⟨L, 0, none⟩ = false ∧ wr.frozen? ⟨L, 1, none⟩ = false ∧ wr.frozen? ⟨L, 2, none⟩ = false ∧ wr.frozen? ⟨L, 3, none⟩ = false) :=
 ⟨⟨(h.va.cell 0 _ rfl).1, (h.va.cell 1 _ rfl).1, (h.va.cell 2 _ rfl).1, (h.va.cell 3 _ rfl).1, (h.va.cell 4 _ rfl).1⟩, (h.va.cell 0 _ rfl).2, (h.va.cell 1 _ rfl).2, (h.va.cell 2 _ rfl).2, (h.va.cell 3 _ rfl).2⟩
theorem FnC.more {X' : Value} {q : List Nat × Nat} (h : FnC R S w L G lo s l X ty B p σ wr) (ho : w'.ownsRow lo 87 2 X' (l.length + 1) (pasC l ++ paC q)) (hg : wr.grownBy w' X.ownBlock) : FnC R S w L G lo s (l ++ [q]) X' ty B p σ (w'.setCell ⟨L, 1, none⟩ X') ∧ w'.heap[L]? = wr.heap[L]? := by
 have h1 := h.hR
 have h2 := h.hL
 have h3 := h.hG
 have h4 := h.lo
 have Bl : Below lo wr w' := ⟨hg.os, hg.tape, hg.output, hg.size, fun k hk => hg.block k (by omega) fun e => by have := (h.own.lt k e.symm).1; omega⟩
 have hs : ∀ b, b ≠ L → (w'.setCell ⟨L, 1, none⟩ X').heap[b]? = w'.heap[b]? := fun b hb => set_other b hb
 refine ⟨⟨h.st.keep fun b hb => by rw [hs b (by omega), Bl.block b (by omega)], (h.va.of (Bl.block L (by omega))).set 1 X', ?_, (h.mv.low Bl (by omega)).low set_below h2.1, by rw [hs G h.ne, Bl.block G (by omega)]; exact h.z, h1, h2, h3, h.ne, by rw [set_size]; exact Nat.le_trans h.lo Bl.size⟩, Bl.block L (by omega)⟩
 rw [pasC_snoc, List.length_append]
 refine ⟨ho.1, ?_⟩
 rcases ho.2 with h' | ⟨g, cap, cur, rfl, hg1, hg2, rest⟩
 ·exact .inl h'
 ·exact .inr ⟨g, cap, cur, rfl, hg1, by rw [hs g (by omega)]; exact hg2, rest⟩
theorem FnC.th (h : FnC R S w L G lo s l X ty B p σ wr) : wr.there G 0 5 := there_cells (cs := [.string ⟨#[]⟩, .slice none 0 0, .int .i64 0, .slice none 0 0, .int .i64 0]) (T := 69) h.z rfl
theorem FnC.start (hs : Rs wr R S σ) (hv : VarAt wr L [.string (strN s), .slice none 0 0, .int .i64 ty, .slice none 0 0, .int .i64 p]) (hm : Moves R w wr) (hz : wr.heap[G]? = some fuZ) (hR : R < w.heap.size) (hL : w.heap.size ≤ L ∧ L < wr.heap.size) (hG : w.heap.size ≤ G ∧ G < wr.heap.size) (ne : G ≠ L) :
  FnC R S w L G wr.heap.size s [] (.slice none 0 0) ty (.slice none 0 0) p σ wr := ⟨hs, hv, World.ownsRow_nil _ _ _ _, hm, hz, hR, hL, hG, ne, Nat.le_refl _⟩
theorem FnC.done {b : List St} {t P : Nat} (h : FnC R S w L G lo s l X t B P σ wr) (hb : BlC lo wr b B) (m : Res Fu) (hu : m.unit = σ) (hv : ∀ a r, m = .ok a r → a = ⟨s, l, t, b, P⟩)
  (g3 : Below G wr w') (g4 : ∀ k, k ≠ G → w'.heap[k]? = wr.heap[k]?) (g5 : w'.heap.size = wr.heap.size) : RGot R S (QFu w.heap.size) w m (.returned (.agg #[.string (strN s), X, .int .i64 t, B, .int .i64 P])) w' := by
 have h1 := h.hR
 have h2 := h.hL
 have h3 := h.hG
 refine ⟨h.mv.low g3 h3.1, ⟨⟨s, l, t, b, P⟩, _, rfl, ⟨⟨X, B⟩, rfl, ?_, ?_⟩, fun a r e => (hv a r e).symm⟩, by rw [hu]; exact h.st.other (by omega) g4⟩
 ·exact ((RowF.own h.own).same fun q hq => g4 q (by have := hq.1; omega)).more fun q hq => ⟨by have := hq.1; omega, by rw [g5]; exact hq.2⟩
 ·exact (StsC.same hb fun q hq => g4 q (by have := hq.1; omega)).more fun q hq => ⟨by have := hq.1; omega, by rw [g5]; exact hq.2⟩
end
section
variable {α : Type} {z f : Nat} {e : Par α} {l : List α} {ts : List Tok} {σ : Res Unit}
def partsG (z : Nat) (e : Par α) (f : Nat) (l : List α) : Par (List α) := fun ts => if l.isEmpty then (if seesT z [[41]] ts then .ok [] ts.tail else (e ts).bind fun x r' => moreL z e r'.length [x] r') else moreL z e f l ts
theorem moreL_endG (h : seesT z [[44]] ts = false) : ∀ f, moreL z e f l ts = (wantT z [41] ts).bind fun _ r => .ok l r
 | 0 => rfl
 | f + 1 => by rw [moreL, if_neg (by simp [h])]
theorem parts_exit (h : ∀ u ts, σ = .ok u ts → seesT z [[41]] ts = true) : (σ.bind fun _ ts => partsG z e f l ts) = (mustR z [41] σ).bind fun _ ts => .ok l ts := by
 cases σ with
 | bad c p => rfl
 | ok u ts =>
  have hs := h u ts rfl
  show partsG z e f l ts = (wantT z [41] ts).bind _
  have hw : wantT z [41] ts = .ok () ts.tail := by unfold wantT; rw [if_pos hs]
  rw [hw]
  unfold partsG
  cases l with
  | nil => show (if seesT z [[41]] ts then _ else _) = _; rw [if_pos hs]; rfl
  | cons a l =>
   rw [if_neg (by simp), moreL_endG (sees_text hs (by decide)), hw]
theorem parts_first (h : seesT z [[41]] ts = false) : partsG z e f [] ts = (e ts).bind fun x r' => moreL z e r'.length [x] r' := by
 show (if seesT z [[41]] ts then _ else _) = _
 rw [if_neg (by simp [h])]
theorem parts_more (hl : l ≠ []) (h : seesT z [[44]] ts = true) : partsG z e (f + 1) l ts = (e ts.tail).bind fun y r => moreL z e f (l ++ [y]) r := by
 unfold partsG
 rw [if_neg (by simpa using hl), moreL, if_pos h]
theorem parts_stop (hl : l ≠ []) (h1 : seesT z [[41]] ts = false) (h : seesT z [[44]] ts = false) : partsG z e f l ts = failT z 41 ts := by
 unfold partsG
 rw [if_neg (by simpa using hl), moreL_endG h]
 unfold wantT
 rw [if_neg (by simp [h1])]
 rfl
theorem parts_bind {y : α} (ts : List Tok) : partsG z e f (l ++ [y]) ts = moreL z e f (l ++ [y]) ts := by
 unfold partsG
 rw [if_neg (by simp)]
theorem list_parts : listP z e ts = (wantT z [40] ts).bind fun _ r => partsG z e r.length [] r := by
 unfold listP
 cases wantT z [40] ts <;> rfl
end
def fnP (z P : Nat) (s : List Nat) (l : List (List Nat × Nat)) : Par Fu := fun r2 =>
 (if seesT z [[58]] r2 then typeP z r2.tail else .ok 0 r2).bind fun n r3 => (blockP z 32 r3).bind fun b r4 => .ok ⟨s, l, n, b, P⟩ r4
theorem func_parts (z : Nat) (ts : List Tok) : funcP z ts = (wantT z [102, 110] ts).bind fun _ r => (nameP z r).bind fun s r1 => (wantT z [40] r1).bind fun _ q => (partsG z (paramP z) q.length [] q).bind fun l r2 => fnP z (peekT z ts).place s l r2 := by
 unfold funcP fnP
 cases wantT z [102, 110] ts with
 | bad c p => rfl
 | ok u r =>
  show (nameP z r).bind _ = (nameP z r).bind _
  cases nameP z r with
  | bad c p => rfl
  | ok s r1 =>
   show (listP z (paramP z) r1).bind _ = (wantT z [40] r1).bind _
   rw [list_parts]
   cases wantT z [40] r1 <;> rfl
end
section
open Go.RowKit
set_option maxRecDepth 100000
set_option linter.unusedSimpArgs false
set_option linter.unusedVariables false
theorem param_eq (z : Nat) (σ : Res Unit) : (σ.bind fun _ ts => paramP z ts) = (((σ.bind fun _ ts => takeT z 1 ts).bind fun t r => (wantT z [58] r).bind fun _ q => .ok t q).bind fun t r => (typeP z r).bind fun n q => .ok (t.text, n) q) := by
 cases σ with
 | bad c p => rfl
 | ok u ts =>
  show (nameP z ts).bind _ = ((takeT z 1 ts).bind _).bind _
  unfold nameP
  cases takeT z 1 ts with
  | bad c p => rfl
  | ok t r =>
   show (wantT z [58] r).bind _ = ((wantT z [58] r).bind _).bind _
   cases wantT z [58] r with
   | bad c p => rfl
   | ok u q =>
    show (typeP z q).bind _ = (typeP z q).bind _
    rfl
theorem param_unit (z : Nat) (σ : Res Unit) : (σ.bind fun _ ts => paramP z ts).unit = (typR z (mustR z [58] (σ.bind fun _ ts => takeT z 1 ts).unit)).unit := by
 rw [param_eq, then_unit, one_unit]
 rfl
theorem param_val {z : Nat} {σ : Res Unit} {x : List Nat × Nat} {r : List Tok} (h : (σ.bind fun _ ts => paramP z ts) = .ok x r) : ∃ t r1 n r2, (σ.bind fun _ ts => takeT z 1 ts) = .ok t r1 ∧ typR z (mustR z [58] (σ.bind fun _ ts => takeT z 1 ts).unit) = .ok n r2 ∧ x = (t.text, n) := by
 rw [param_eq] at h
 obtain ⟨t, r0, n, h1, h2, h3⟩ := then_val h
 rw [one_unit] at h2
 obtain ⟨t', r1, h4, h5⟩ := one_val h1
 subst h5
 exact ⟨t, r1, n, r, h4, h2, h3⟩
theorem FnC.pset {R : Nat} {S : Src} {w : World} {L G lo : Nat} {s : List Nat} {l : List (List Nat × Nat)} {X B : Value} {ty p : Int} {σ : Res Unit} {wr : World} (h : FnC R S w L G lo s l X ty B p σ wr) (q i : Nat) (v : Value) (hq : lo ≤ q) (hX : ∀ g, X.ownBlock = some g → g < q) : FnC R S w L G lo s l X ty B p σ (wr.setCell ⟨q, i, none⟩ v) := by
 have h1 := h.hR
 have h2 := h.hL
 have h3 := h.hG
 refine ⟨h.st.other (by omega) (fun k hk => set_other k hk), h.va.of (set_other L (by omega)), ?_, h.mv.low (set_below (b := q)) (by omega), by rw [set_other G (by omega)]; exact h.z, h1, h2, h3, h.ne, by rw [set_size]; exact h.lo⟩
 refine h.own.kept (Moves.set (R := q) i v) ?_
 cases hv : X.ownBlock with
 | none => exact .inl rfl
 | some g =>
  refine .inr fun e => ?_
  injection e with e
  have := hX g hv
  omega
def FnS (R : Nat) (S : Src) (w : World) (L G lo : Nat) (s : List Nat) (P : Nat) (m : Res Fu) (wr : World) : Prop :=
 ∃ l A c σ f, FnC R S w L G lo s l (.slice A l.length c) 0 (.slice none 0 0) P σ wr ∧ (∀ u ts, σ = .ok u ts → ts.length ≤ f) ∧ (∀ u ts, σ = .ok u ts → l.length + ts.length ≤ 4096) ∧ m = (σ.bind fun _ ts => partsG S.z (paramP S.z) f l ts).bind fun l r => fnP S.z P s l r
def FnE (R : Nat) (S : Src) (w : World) (L G lo : Nat) (s : List Nat) (P : Nat) (m : Res Fu) (wr : World) : Prop :=
 ∃ l A c σ, FnC R S w L G lo s l (.slice A l.length c) 0 (.slice none 0 0) P σ wr ∧ m = ((mustR S.z [41] σ).bind fun _ ts => .ok l ts).bind fun l r => fnP S.z P s l r
theorem func_states {z P : Nat} {σ : Res Unit} {t : Tok} (hP : ∀ u ts, σ = .ok u ts → P = (peekT z ts).place) (ht : ∀ a r, ((mustR z [102, 110] σ).bind fun _ ts => takeT z 1 ts) = .ok a r → t = a) :
  ∃ f, (σ.bind fun _ ts => funcP z ts) = ((mustR z [40] ((mustR z [102, 110] σ).bind fun _ ts => takeT z 1 ts).unit).bind fun _ ts => partsG z (paramP z) f [] ts).bind (fun l r => fnP z P t.text l r) ∧ ∀ u ts, mustR z [40] ((mustR z [102, 110] σ).bind fun _ ts => takeT z 1 ts).unit = .ok u ts → ts.length ≤ f := by
 cases σ with
 | bad c p => exact ⟨0, rfl, fun u ts h => by cases h⟩
 | ok u ts =>
  have hp := hP u ts rfl
  show ∃ f, funcP z ts = _ ∧ _
  rw [func_parts, ← hp]
  show ∃ f, (wantT z [102, 110] ts).bind _ = ((mustR z [40] ((wantT z [102, 110] ts).bind fun _ ts => takeT z 1 ts).unit).bind _).bind _ ∧ ∀ u ts', mustR z [40] ((wantT z [102, 110] ts).bind fun _ ts => takeT z 1 ts).unit = .ok u ts' → _
  have ht' : ∀ a r, ((wantT z [102, 110] ts).bind fun _ ts => takeT z 1 ts) = .ok a r → t = a := ht
  cases h1 : wantT z [102, 110] ts with
  | bad c p => exact ⟨0, rfl, fun u ts h => by cases h⟩
  | ok u r =>
   rw [h1] at ht'
   unfold nameP
   show ∃ f, ((takeT z 1 r).bind _).bind _ = ((mustR z [40] (takeT z 1 r).unit).bind _).bind _ ∧ ∀ u ts', mustR z [40] (takeT z 1 r).unit = .ok u ts' → _
   have ht2 : ∀ a r', takeT z 1 r = .ok a r' → t = a := ht'
   cases h2 : takeT z 1 r with
   | bad c p => exact ⟨0, rfl, fun u ts h => by cases h⟩
   | ok t' r1 =>
    obtain rfl := ht2 t' r1 h2
    show ∃ f, (wantT z [40] r1).bind _ = ((wantT z [40] r1).bind _).bind _ ∧ ∀ u ts', wantT z [40] r1 = .ok u ts' → _
    cases h3 : wantT z [40] r1 with
    | bad c p => exact ⟨0, rfl, fun u ts h => by cases h⟩
    | ok u q => exact ⟨q.length, rfl, fun u ts h => by injection h with _ h; rw [h]; exact Nat.le_refl _⟩
theorem fun_unit {α β : Type} (m : Res α) (f : α → β) : (m.bind fun x r => .ok (f x) r).unit = m.unit := by cases m <;> rfl
theorem fn_no {z P : Nat} {s : List Nat} {l : List (List Nat × Nat)} {σ : Res Unit} (h : isR z [58] σ = false) : ((σ.bind fun _ ts => .ok l ts).bind fun l r => fnP z P s l r) = (σ.bind fun _ ts => blockP z 32 ts).bind fun b r => .ok (⟨s, l, 0, b, P⟩ : Fu) r := by
 cases σ with
 | bad c p => rfl
 | ok u ts =>
  have h' : seesT z [[58]] ts = false := h
  show fnP z P s l ts = (blockP z 32 ts).bind _
  unfold fnP
  rw [if_neg (by rw [h']; decide)]
  rfl
theorem fn_yes {z P : Nat} {s : List Nat} {l : List (List Nat × Nat)} {σ : Res Unit} (h : isR z [58] σ = true) : ((σ.bind fun _ ts => .ok l ts).bind fun l r => fnP z P s l r) = (typR z (passR z [58] σ)).bind fun n r3 => (blockP z 32 r3).bind fun b r4 => .ok (⟨s, l, n, b, P⟩ : Fu) r4 := by
 obtain ⟨u, ts, rfl, h2, h3⟩ := pass_true h
 rw [h3]
 show fnP z P s l ts = (typeP z ts.tail).bind _
 unfold fnP
 rw [if_pos h2]
set_option maxHeartbeats 1600000 in
theorem rfunction (R : Nat) (S : Src) (hsm : S.all.length ≤ 4096) (σ : Res Unit) (w : World) (ha : Rs w R S σ) : Calls Tryz.prog 37 #[.pointer (some ⟨R, 0, none⟩)] w (RGot R S (QFu w.heap.size) w (σ.bind fun _ ts => funcP S.z ts)) := by
 have HR := Lib.hid ha.lt
 have HBd := Lib.hid (rbody R S hsm)
 have h0 := open_one ha fuZ
 have K := Lib.hid (rplaceR R S σ _ h0.1)
 have HA := Lib.hid h0
 obtain ⟨i0, hi, hz0, hz1, hz2⟩ := info_parts info71
 obtain ⟨m, hm⟩ : ∃ m, m = (σ.bind fun _ ts => funcP S.z ts) := ⟨_, rfl⟩
 show Calls _ _ _ _ (RGot R S (QFu w.heap.size) w (σ.bind fun _ ts => funcP S.z ts))
 rw [← hm]
 have HM0 := Lib.hid hm
 obtain ⟨σ1, hσ1⟩ : ∃ s, s = mustR S.z [102, 110] σ := ⟨_, rfl⟩
 obtain ⟨τ, hτ⟩ : ∃ s, s = (σ1.bind fun _ ts => takeT S.z 1 ts) := ⟨_, rfl⟩
 obtain ⟨σ3, hσ3⟩ : ∃ s, s = mustR S.z [40] τ.unit := ⟨_, rfl⟩
 have HT1 := Lib.hid hσ1
 have HT2 := Lib.hid hτ
 have HT3 := Lib.hid hσ3
 clear ha h0 hm hσ1 hτ hσ3
 unfold fuZ at HA K
 go_enter Tryz.func37, Tryz.ntmps37
 go_wp2_with fail
 generalize hw0 : w.alloc (.cells #[.string ⟨#[]⟩, .slice none 0 0, .int .i64 0, .slice none 0 0, .int .i64 0] 69) = w0 at *
 clear hw0
 (with_reducible refine K.out.mono ?_)
 clear K
 rintro x w1 ⟨P, rfl, hP, b1⟩
 have HS : Hid (FnC R S w w1.heap.size w.heap.size (w1.heap.size + 1) [] [] (.slice none 0 0) 0 (.slice none 0 0) P σ (w1.alloc (.cells #[.string ⟨#[]⟩, .slice none 0 0, .int .i64 0, .slice none 0 0, .int .i64 P] 69))) := by
  have hz := HA.out.2.2.2.1
  have hsz := b1.size
  have h1 := HA.out.1.below b1 (Nat.le_refl _)
  have o1 := open_one h1 (.cells #[.string ⟨#[]⟩, .slice none 0 0, .int .i64 0, .slice none 0 0, .int .i64 P] 69)
  have h2 : FnC R S w w1.heap.size w.heap.size (w1.alloc (.cells #[.string ⟨#[]⟩, .slice none 0 0, .int .i64 0, .slice none 0 0, .int .i64 P] 69)).heap.size [] [] (.slice none 0 0) 0 (.slice none 0 0) P σ (w1.alloc (.cells #[.string ⟨#[]⟩, .slice none 0 0, .int .i64 0, .slice none 0 0, .int .i64 P] 69)) := FnC.start o1.1 (VarAt.block (cs := [.string (strN []), .slice none 0 0, .int .i64 0, .slice none 0 0, .int .i64 P]) (T := 69) o1.2.2.1) (((Moves.of_below HA.out.2.1 (Nat.le_refl _)).below b1 (Nat.le_refl _)).below o1.2.1 (Nat.le_refl _)) (by rw [o1.2.1.block _ (by omega), b1.block _ (by omega)]; exact HA.out.2.2.1) HR.out ⟨by omega, by simp⟩ ⟨Nat.le_refl _, by simp; omega⟩ (by omega)
  rw [o1.2.2.2.1] at h2
  exact h2
 have HP := Lib.hid hP
 have hRlo : R < w1.heap.size + 1 := by have := HR.out; have := HA.out.2.2.2.1; have := b1.size; omega
 have HLw : Hid (w.heap.size < w1.heap.size) := by have := HA.out.2.2.2.1; have := b1.size; show _ < _; omega
 clear HA hP b1
 go_wp2_with fail
 generalize w1.alloc (.cells #[.string ⟨#[]⟩, .slice none 0 0, .int .i64 0, .slice none 0 0, .int .i64 (P : Int)] 69) = w2 at *
 have K := Lib.hid (rmust R S σ [102, 110] ⟨#[102, 110]⟩ w2 HS.out.st (by kernel_rfl) (by unfold Byn; decide))
 rw [← HT1.out] at K
 (with_reducible refine K.out.mono ?_)
 clear K
 rintro x w3 ⟨rfl, h1, h2⟩
 have HC1 := Lib.hid (HS.out.moves h1 h2)
 clear h1 h2 HS
 go_wp2_with fail
 have K : Hid (Calls Tryz.prog 69 #[.pointer (some ⟨R, 0, none⟩), .int .i64 1] w3 (RGot R S QT w3 τ)) := by rw [HT2.out]; exact rkind R S σ1 1 (by omega) w3 HC1.out.st
 (with_reducible refine K.out.mono ?_)
 clear K
 rintro x w4 ⟨m3, ⟨t, xv, rfl, hq, hv⟩, r3⟩
 have hq' : xv = tokV t := hq
 subst hq'
 have HC2 := Lib.hid (HC1.out.moves m3 r3)
 have HVt := Lib.hid hv
 clear m3 r3 hq hv HC1
 simp only [tokV, tokC]
 have f0 := HC2.out.cells
 have c0 := f0.1.1
 have b0 := f0.2.1
 clear f0
 have hf := fun w' => (run_field77 w' t).2
 have HC3 := Lib.hid (HC2.out.set0 t.text)
 go_wp2_with fail
 clear hf
 generalize w4.setCell ⟨w1.heap.size, 0, none⟩ (.string (strN t.text)) = w5 at *
 clear c0 b0 HC2
 have K := Lib.hid (rmust R S τ.unit [40] ⟨#[40]⟩ w5 HC3.out.st (by kernel_rfl) (by unfold Byn; decide))
 rw [← HT3.out] at K
 (with_reducible refine K.out.mono ?_)
 clear K
 rintro x w6 ⟨rfl, h1, h2⟩
 have HC4 := Lib.hid (HC3.out.moves h1 h2)
 clear h1 h2 HC3
 have HL : Hid (FnS R S w w1.heap.size w.heap.size (w1.heap.size + 1) t.text P m w6) := by
  obtain ⟨f, h1, h2⟩ := func_states (t := t) HP.out (by rw [← HT1.out, ← HT2.out]; exact HVt.out)
  rw [← HT1.out, ← HT2.out, ← HT3.out] at h1 h2
  refine ⟨[], none, 0, σ3, f, HC4.out, h2, fun u ts h => ?_, HM0.out.trans h1⟩
  have := HC4.out.st
  rw [h] at this
  simpa using this.few hsm
 clear HC4 HT1 HT2 HT3 HM0 HP HVt
 go_upto_block 0 with fail
 go_cut [] (fun wx => FnE R S w w1.heap.size w.heap.size (w1.heap.size + 1) t.text P m wx)
 case first =>
  go_wp2_with fail
  go_loopw [] (fun wr => FnS R S w w1.heap.size w.heap.size (w1.heap.size + 1) t.text P m wr) (fun wr => measR R S wr)
  case atStart => exact HL.out
  case round =>
   obtain ⟨l, A, c, σ', f, hC, hf, hs4, hm⟩ := hrel
   have HC := Lib.hid hC
   have HF := Lib.hid hf
   have HS4 := Lib.hid hs4
   have HM := Lib.hid hm
   clear hC hf hs4 hm HL
   cases σ' with
   | bad c0 p0 =>
    have hst := HC.out.st
    obtain ⟨hne, i, hg⟩ := hst
    obtain ⟨_, _, c2, _, _⟩ := hg.cells
    have q1 : (((c0 : Nat) : Int) == 0) = false := by rw [beq_eq_false_iff_ne]; omega
    have HE : Hid (FnE R S w w1.heap.size w.heap.size (w1.heap.size + 1) t.text P m wr) := ⟨l, A, c, _, HC.out, by rw [HM.out, parts_exit (fun u ts h => by cases h)]⟩
    clear hne hg
    go_wp2
    go_meet
    exact HE.out
   | ok u1 ts1 =>
    obtain ⟨i, hi', hg⟩ := HC.out.st
    obtain ⟨_, _, c2, _, _⟩ := hg.cells
    rw [show ((0 : Nat) : Int) = 0 from rfl] at c2
    clear hi' hg
    have K := Lib.hid (ris R S _ [41] ⟨#[41]⟩ wr HC.out.st (by kernel_rfl) (by unfold Byn; decide))
    cases hb : isR S.z [41] (.ok u1 ts1) with
    | true =>
     have HX : Hid (∀ u ts, (Res.ok u1 ts1 : Res Unit) = .ok u ts → seesT S.z [[41]] ts = true) := fun u ts h => by injection h with _ h; rw [← h]; exact hb
     rw [hb] at K
     clear hb
     go_wp2_with fail
     (with_reducible refine K.out.mono ?_)
     clear K
     rintro x w7 ⟨rfl, h1⟩
     have HE : Hid (FnE R S w w1.heap.size w.heap.size (w1.heap.size + 1) t.text P m w7) := ⟨l, A, c, _, HC.out.moves (Moves.of_below h1 (Nat.le_refl _)) (HC.out.st.below h1 (Nat.le_refl _)), by rw [HM.out, parts_exit HX.out]⟩
     clear h1 HC c2
     go_wp2
     go_meet
     exact HE.out
    | false =>
     have HN4 : Hid (seesT S.z [[41]] ts1 = false) := hb
     have HLe : Hid (l.length ≤ 4096) := by have := HS4.out u1 ts1 rfl; show _ ≤ _; omega
     rw [hb] at K
     clear hb
     go_wp2_with fail
     (with_reducible refine K.out.mono ?_)
     clear K
     rintro x w7 ⟨rfl, h1⟩
     have HC5 := Lib.hid (HC.out.moves (Moves.of_below h1 (Nat.le_refl _)) (HC.out.st.below h1 (Nat.le_refl _)))
     have HMeas : Hid (measR R S wr = 2 * ts1.length + 2) := meas_ok HC.out.st
     clear h1 c2 HC
     have e2 := HC5.out.cells.1.2.1
     by_cases hl : l = []
     ·obtain ⟨Fx, hFx⟩ : ∃ F : List Tok → Nat, F = fun r => r.length := ⟨_, rfl⟩
      have HMx : Hid (m = (((Res.ok u1 ts1 : Res Unit).bind fun _ ts => paramP S.z ts).bind fun y r => moreL S.z (paramP S.z) (Fx r) (l ++ [y]) r).bind fun l r => fnP S.z P t.text l r) := by
       show _ = _
       rw [HM.out]
       show (partsG S.z (paramP S.z) f l ts1).bind _ = _
       rw [hFx, hl, parts_first HN4.out]
       rfl
      have HFx : Hid (∀ a r0, ((Res.ok u1 ts1 : Res Unit).bind fun _ ts => paramP S.z ts) = .ok a r0 → r0.length ≤ Fx r0 ∧ l.length + 1 + r0.length ≤ 4096 ∧ r0.length < ts1.length) := fun a r0 h => by
       have h1 := takes_param S.z _ _ _ h
       have h2 := HS4.out u1 ts1 rfl
       rw [hFx]
       exact ⟨Nat.le_refl _, by omega, h1⟩
      have hl0 : l.length = 0 := by rw [hl]; rfl
      clear hl hFx HM HF HN4 HS4
      go_upto_region 8 with fail
      have HL0 := Lib.hid hl0
      clear hl0 e2
      generalize (Res.ok u1 ts1 : Res Unit) = σa at *
      go_wp2_with fail
      obtain ⟨τ2, hτ2⟩ : ∃ s, s = (σa.bind fun _ ts => takeT S.z 1 ts) := ⟨_, rfl⟩
      obtain ⟨σb, hσb⟩ : ∃ s, s = mustR S.z [58] τ2.unit := ⟨_, rfl⟩
      obtain ⟨ρ, hρ⟩ : ∃ s, s = typR S.z σb := ⟨_, rfl⟩
      have HU2 : Hid ((σa.bind fun _ ts => paramP S.z ts).unit = ρ.unit) := by show _ = _; rw [param_unit, hρ, hσb, hτ2]
      have HV2 : Hid (∀ x r, (σa.bind fun _ ts => paramP S.z ts) = .ok x r → ∃ t r1 n r2, τ2 = .ok t r1 ∧ ρ = .ok n r2 ∧ x = (t.text, n)) := fun x r h => by
       obtain ⟨t, r1, n, r2, h1, h2, h3⟩ := param_val h
       exact ⟨t, r1, n, r2, by rw [hτ2]; exact h1, by rw [hρ, hσb, hτ2]; exact h2, h3⟩
      have HU3 := Lib.hid hτ2
      have HU4 := Lib.hid hσb
      have HU5 := Lib.hid hρ
      clear hτ2 hσb hρ
      have K : Hid (Calls Tryz.prog 69 #[.pointer (some ⟨R, 0, none⟩), .int .i64 1] w7 (RGot R S QT w7 τ2)) := by rw [HU3.out]; exact rkind R S σa 1 (by omega) w7 HC5.out.st
      (with_reducible refine K.out.mono ?_)
      clear K
      rintro x va ⟨m3, ⟨tk, xv, rfl, hq, hv⟩, r3⟩
      have hq' : xv = tokV tk := hq
      subst hq'
      have HCa := Lib.hid (HC5.out.moves m3 r3)
      have HVk := Lib.hid hv
      clear m3 r3 hq hv HC5
      simp only [tokV, tokC]
      have hf2 := fun w' => (run_field77 w' tk).2
      have HCb : Hid (FnC R S w w1.heap.size w.heap.size (w1.heap.size + 1) t.text l (.slice A l.length c) 0 (.slice none 0 0) P τ2.unit (va.alloc (.cells #[.string (strN tk.text), .int .i64 0] 87)) ∧ VarAt (va.alloc (.cells #[.string (strN tk.text), .int .i64 0] 87)) va.heap.size [.string (strN tk.text), .int .i64 0] ∧ w1.heap.size + 1 ≤ va.heap.size ∧ va.heap.size < (va.alloc (.cells #[.string (strN tk.text), .int .i64 0] 87)).heap.size ∧ (∀ g, (Value.slice A l.length c).ownBlock = some g → g < va.heap.size)) := by
       have bt := below_alloc va (.cells #[.string (strN tk.text), .int .i64 0] 87)
       exact ⟨HCa.out.moves (Moves.of_below bt (Nat.le_refl _)) (HCa.out.st.below bt (Nat.le_refl _)), VarAt.block (cs := [.string (strN tk.text), .int .i64 0]) (T := 87) (heap_alloc_new va _), HCa.out.lo, by simp, fun g hg => (HCa.out.own.lt g hg).2⟩
      clear HCa
      go_wp2_with fail
      clear hf2
      generalize va.alloc (.cells #[.string (strN tk.text), .int .i64 0] 87) = vb at *
      generalize va.heap.size = pb at *
      have K := Lib.hid (rmust R S τ2.unit [58] ⟨#[58]⟩ vb HCb.out.1.st (by kernel_rfl) (by unfold Byn; decide))
      rw [← HU4.out] at K
      (with_reducible refine K.out.mono ?_)
      clear K
      rintro x vc ⟨rfl, h1, h2⟩
      have HCc : Hid (FnC R S w w1.heap.size w.heap.size (w1.heap.size + 1) t.text l (.slice A l.length c) 0 (.slice none 0 0) P σb vc ∧ VarAt vc pb [.string (strN tk.text), .int .i64 0] ∧ w1.heap.size + 1 ≤ pb ∧ pb < vc.heap.size ∧ (∀ g, (Value.slice A l.length c).ownBlock = some g → g < pb)) :=
       ⟨HCb.out.1.moves h1 h2, HCb.out.2.1.of (h1.block' HCb.out.2.2.2.1 (by have := HCb.out.2.2.1; omega)), HCb.out.2.2.1, Nat.lt_of_lt_of_le HCb.out.2.2.2.1 h1.size, HCb.out.2.2.2.2⟩
      clear h1 h2 HCb
      go_wp2_with fail
      have K := Lib.hid (rtyp R S σb vc HCc.out.1.st)
      rw [← HU5.out] at K
      (with_reducible refine K.out.mono ?_)
      clear K
      rintro x vd ⟨h1, ⟨n, xv, rfl, hq, hv⟩, h2⟩
      have hq' : xv = .int .i64 n := hq
      subst hq'
      have HVn := Lib.hid hv
      have HCd : Hid (FnC R S w w1.heap.size w.heap.size (w1.heap.size + 1) t.text l (.slice A l.length c) 0 (.slice none 0 0) P ρ.unit vd ∧ VarAt vd pb [.string (strN tk.text), .int .i64 0] ∧ w1.heap.size + 1 ≤ pb ∧ pb < vd.heap.size ∧ (∀ g, (Value.slice A l.length c).ownBlock = some g → g < pb)) :=
       ⟨HCc.out.1.moves h1 h2, HCc.out.2.1.of (h1.block' HCc.out.2.2.2.1 (by have := HCc.out.2.2.1; omega)), HCc.out.2.2.1, Nat.lt_of_lt_of_le HCc.out.2.2.2.1 h1.size, HCc.out.2.2.2.2⟩
      clear h1 h2 HCc hq hv
      have e1 := (HCd.out.2.1.cell 1 _ rfl).1
      have e2 := (HCd.out.2.1.cell 1 _ rfl).2
      go_upto_region 11 with fail
      clear e1 e2
      have HCe : Hid (FnC R S w w1.heap.size w.heap.size (w1.heap.size + 1) t.text l (.slice A l.length c) 0 (.slice none 0 0) P ρ.unit (vd.setCell ⟨pb, 1, none⟩ (.int .i64 n)) ∧ VarAt (vd.setCell ⟨pb, 1, none⟩ (.int .i64 n)) pb [.string (strN tk.text), .int .i64 n]) := ⟨HCd.out.1.pset pb 1 _ HCd.out.2.2.1 HCd.out.2.2.2.2, HCd.out.2.1.set 1 _⟩
      generalize vd.setCell ⟨pb, 1, none⟩ (.int .i64 (n : Int)) = ve at *
      clear HCd
      have e0 := (HCe.out.2.cell 0 _ rfl).1
      have e1 := (HCe.out.2.cell 1 _ rfl).1
      have e2 := HCe.out.1.cells.1.2.1
      have hll := HLe.out
      have HCf : Hid (FnC R S w w1.heap.size w.heap.size (w1.heap.size + 1) t.text l (.slice A l.length c) 0 (.slice none 0 0) P ρ.unit (ve.alloc (.cells #[.string (strN tk.text), .int .i64 n] 87))) := by
       have bt := below_alloc ve (.cells #[.string (strN tk.text), .int .i64 n] 87)
       exact HCe.out.1.moves (Moves.of_below bt (Nat.le_refl _)) (HCe.out.1.st.below bt (Nat.le_refl _))
      have HNw : Hid (∀ (j : Nat) (u : Value), (paC (tk.text, n))[j]? = some u → (ve.alloc (.cells #[.string (strN tk.text), .int .i64 n] 87)).cell? ((Addr.mk ve.heap.size 0 none).add j) = some u) := fun j u hu => by
       rw [Addr.add_mid]
       exact range_of (cs := paC (tk.text, n)) (heap_alloc_new ve _) j u hu
      have HB9 : Hid ((l.length + 1) * 24 ≤ 140737488355328 ∧ l.length + 1 ≤ maxLen) := ⟨by omega, by unfold maxLen; omega⟩
      clear HCe hll
      go_wp2_with (refine wpList_append_one _ rfl (.tmp 42) (.tmp 44) 66 rfl (w1.heap.size + 1) 87 i0 _ 2 24 Tryz.underlying66 hi hz0 hz1 hz2 rfl (Nat.succ_pos 1) _ _ _ rfl HCf.out.own ⟨ve.heap.size, 0, none⟩ 1 (paC (tk.text, n)) rfl rfl HNw.out one2 HB9.out.1 HB9.out.2 HCf.out.lo ?_; intro v' w' ho hg hvv; obtain ⟨A', c', hA'⟩ := own_shape ho; subst hA'; have HCg := Lib.hid (HCf.out.more ho hg).1; have hcL := HCf.out.va.of (HCf.out.more ho hg).2; have hce := (hcL.cell 1 _ rfl).1; have hcf := (hcL.cell 1 _ rfl).2; clear ho hg hvv HNw hcL HCf e0 e1 e2)
      go_roundw
      case rel =>
       have hst := HCg.out
       have hu := HU2.out
       cases hx : (σa.bind fun _ ts => paramP S.z ts) with
       | bad c0 p0 =>
        rw [hx] at hu
        rw [← hu] at hst
        refine ⟨l ++ [(tk.text, n)], A', c', .bad c0 p0, 0, by rw [show (l ++ [(tk.text, n)]).length = l.length + 1 by simp]; exact hst, fun u0 t0 h => (by cases h), fun u0 t0 h => (by cases h), ?_⟩
        rw [HMx.out, hx]
        rfl
       | ok a r0 =>
        obtain ⟨t', r1, n', r2, g1, g2, g3⟩ := HV2.out a r0 hx
        obtain rfl := HVk.out t' r1 g1
        obtain rfl := HVn.out n' r2 g2
        subst g3
        rw [hx] at hu
        rw [← hu] at hst
        refine ⟨l ++ [(tk.text, n)], A', c', .ok () r0, Fx r0, by rw [show (l ++ [(tk.text, n)]).length = l.length + 1 by simp]; exact hst, fun u0 t0 h => ?_, fun u0 t0 h => ?_, ?_⟩
        ·injection h with _ h
         rw [← h]
         exact (HFx.out _ r0 hx).1
        ·injection h with _ h
         rw [← h]
         have := (HFx.out _ r0 hx).2.1
         simp
         omega
        ·rw [HMx.out, hx]
         show _ = (partsG S.z (paramP S.z) (Fx r0) (l ++ [(tk.text, n)]) r0).bind _
         rw [parts_bind]
         rfl
      case measure =>
       have hst := HCg.out.st
       have hu := HU2.out
       have hmm := HMeas.out
       cases hx : (σa.bind fun _ ts => paramP S.z ts) with
       | bad c0 p0 =>
        rw [hx] at hu
        rw [← hu] at hst
        have := meas_bad hst
        omega
       | ok a r0 =>
        rw [hx] at hu
        rw [← hu] at hst
        have := meas_ok hst
        have := (HFx.out a r0 hx).2.2
        omega
     ·have hlp : 0 < l.length := List.length_pos_iff.2 hl
      have HNl := Lib.hid hl
      have K := Lib.hid (rmust R S _ [44] ⟨#[44]⟩ w7 HC5.out.st (by kernel_rfl) (by unfold Byn; decide))
      obtain ⟨Fx, hFx⟩ : ∃ F : List Tok → Nat, F = fun _ => f - 1 := ⟨_, rfl⟩
      have HMx : Hid (m = (((mustR S.z [44] (Res.ok u1 ts1)).bind fun _ ts => paramP S.z ts).bind fun y r => moreL S.z (paramP S.z) (Fx r) (l ++ [y]) r).bind fun l r => fnP S.z P t.text l r) := by
       show _ = _
       rw [HM.out]
       show (partsG S.z (paramP S.z) f l ts1).bind _ = (((wantT S.z [44] ts1).bind _).bind _).bind _
       by_cases hb4 : seesT S.z [[44]] ts1 = true
       ·have hcons := sees_cons hb4
        have hle := HF.out u1 ts1 rfl
        obtain ⟨f', rfl⟩ : ∃ f', f = f' + 1 := ⟨f - 1, by omega⟩
        have hw : wantT S.z [44] ts1 = .ok () ts1.tail := by unfold wantT; rw [if_pos hb4]
        rw [parts_more HNl.out hb4, hw, hFx]
        rfl
       ·have hw : wantT S.z [44] ts1 = failT S.z 41 ts1 := by unfold wantT; rw [if_neg hb4]
        rw [parts_stop HNl.out HN4.out (by simpa using hb4), hw]
        rfl
      have HFx : Hid (∀ a r0, ((mustR S.z [44] (Res.ok u1 ts1)).bind fun _ ts => paramP S.z ts) = .ok a r0 → r0.length ≤ Fx r0 ∧ l.length + 1 + r0.length ≤ 4096 ∧ r0.length < ts1.length) := fun a r0 h => by
       have h' : ((wantT S.z [44] ts1).bind fun _ ts => paramP S.z ts) = .ok a r0 := h
       by_cases hb4 : seesT S.z [[44]] ts1 = true
       ·have hcons := sees_cons hb4
        have hle := HF.out u1 ts1 rfl
        have hw : wantT S.z [44] ts1 = .ok () ts1.tail := by unfold wantT; rw [if_pos hb4]
        rw [hw] at h'
        have h1 := takes_param S.z _ _ _ h'
        have h2 := HS4.out u1 ts1 rfl
        rw [hFx]
        refine ⟨?_, by omega, by omega⟩
        show _ ≤ f - 1
        omega
       ·have hw : wantT S.z [44] ts1 = failT S.z 41 ts1 := by unfold wantT; rw [if_neg hb4]
        rw [hw] at h'
        cases h'
      clear hl hFx HM HF HN4 HS4
      generalize mustR S.z [44] (Res.ok u1 ts1) = σa at *
      go_wp2_with fail
      (with_reducible refine K.out.mono ?_)
      clear K e2
      rintro x w9 ⟨rfl, h1, h2⟩
      have HC9 := Lib.hid (HC5.out.moves h1 h2)
      clear h1 h2 HC5
      go_wp2_with fail
      obtain ⟨τ2, hτ2⟩ : ∃ s, s = (σa.bind fun _ ts => takeT S.z 1 ts) := ⟨_, rfl⟩
      obtain ⟨σb, hσb⟩ : ∃ s, s = mustR S.z [58] τ2.unit := ⟨_, rfl⟩
      obtain ⟨ρ, hρ⟩ : ∃ s, s = typR S.z σb := ⟨_, rfl⟩
      have HU2 : Hid ((σa.bind fun _ ts => paramP S.z ts).unit = ρ.unit) := by show _ = _; rw [param_unit, hρ, hσb, hτ2]
      have HV2 : Hid (∀ x r, (σa.bind fun _ ts => paramP S.z ts) = .ok x r → ∃ t r1 n r2, τ2 = .ok t r1 ∧ ρ = .ok n r2 ∧ x = (t.text, n)) := fun x r h => by
       obtain ⟨t, r1, n, r2, h1, h2, h3⟩ := param_val h
       exact ⟨t, r1, n, r2, by rw [hτ2]; exact h1, by rw [hρ, hσb, hτ2]; exact h2, h3⟩
      have HU3 := Lib.hid hτ2
      have HU4 := Lib.hid hσb
      have HU5 := Lib.hid hρ
      clear hτ2 hσb hρ
      have K : Hid (Calls Tryz.prog 69 #[.pointer (some ⟨R, 0, none⟩), .int .i64 1] w9 (RGot R S QT w9 τ2)) := by rw [HU3.out]; exact rkind R S σa 1 (by omega) w9 HC9.out.st
      (with_reducible refine K.out.mono ?_)
      clear K
      rintro x va ⟨m3, ⟨tk, xv, rfl, hq, hv⟩, r3⟩
      have hq' : xv = tokV tk := hq
      subst hq'
      have HCa := Lib.hid (HC9.out.moves m3 r3)
      have HVk := Lib.hid hv
      clear m3 r3 hq hv HC9
      simp only [tokV, tokC]
      have hf2 := fun w' => (run_field77 w' tk).2
      have HCb : Hid (FnC R S w w1.heap.size w.heap.size (w1.heap.size + 1) t.text l (.slice A l.length c) 0 (.slice none 0 0) P τ2.unit (va.alloc (.cells #[.string (strN tk.text), .int .i64 0] 87)) ∧ VarAt (va.alloc (.cells #[.string (strN tk.text), .int .i64 0] 87)) va.heap.size [.string (strN tk.text), .int .i64 0] ∧ w1.heap.size + 1 ≤ va.heap.size ∧ va.heap.size < (va.alloc (.cells #[.string (strN tk.text), .int .i64 0] 87)).heap.size ∧ (∀ g, (Value.slice A l.length c).ownBlock = some g → g < va.heap.size)) := by
       have bt := below_alloc va (.cells #[.string (strN tk.text), .int .i64 0] 87)
       exact ⟨HCa.out.moves (Moves.of_below bt (Nat.le_refl _)) (HCa.out.st.below bt (Nat.le_refl _)), VarAt.block (cs := [.string (strN tk.text), .int .i64 0]) (T := 87) (heap_alloc_new va _), HCa.out.lo, by simp, fun g hg => (HCa.out.own.lt g hg).2⟩
      clear HCa
      go_wp2_with fail
      clear hf2
      generalize va.alloc (.cells #[.string (strN tk.text), .int .i64 0] 87) = vb at *
      generalize va.heap.size = pb at *
      have K := Lib.hid (rmust R S τ2.unit [58] ⟨#[58]⟩ vb HCb.out.1.st (by kernel_rfl) (by unfold Byn; decide))
      rw [← HU4.out] at K
      (with_reducible refine K.out.mono ?_)
      clear K
      rintro x vc ⟨rfl, h1, h2⟩
      have HCc : Hid (FnC R S w w1.heap.size w.heap.size (w1.heap.size + 1) t.text l (.slice A l.length c) 0 (.slice none 0 0) P σb vc ∧ VarAt vc pb [.string (strN tk.text), .int .i64 0] ∧ w1.heap.size + 1 ≤ pb ∧ pb < vc.heap.size ∧ (∀ g, (Value.slice A l.length c).ownBlock = some g → g < pb)) :=
       ⟨HCb.out.1.moves h1 h2, HCb.out.2.1.of (h1.block' HCb.out.2.2.2.1 (by have := HCb.out.2.2.1; omega)), HCb.out.2.2.1, Nat.lt_of_lt_of_le HCb.out.2.2.2.1 h1.size, HCb.out.2.2.2.2⟩
      clear h1 h2 HCb
      go_wp2_with fail
      have K := Lib.hid (rtyp R S σb vc HCc.out.1.st)
      rw [← HU5.out] at K
      (with_reducible refine K.out.mono ?_)
      clear K
      rintro x vd ⟨h1, ⟨n, xv, rfl, hq, hv⟩, h2⟩
      have hq' : xv = .int .i64 n := hq
      subst hq'
      have HVn := Lib.hid hv
      have HCd : Hid (FnC R S w w1.heap.size w.heap.size (w1.heap.size + 1) t.text l (.slice A l.length c) 0 (.slice none 0 0) P ρ.unit vd ∧ VarAt vd pb [.string (strN tk.text), .int .i64 0] ∧ w1.heap.size + 1 ≤ pb ∧ pb < vd.heap.size ∧ (∀ g, (Value.slice A l.length c).ownBlock = some g → g < pb)) :=
       ⟨HCc.out.1.moves h1 h2, HCc.out.2.1.of (h1.block' HCc.out.2.2.2.1 (by have := HCc.out.2.2.1; omega)), HCc.out.2.2.1, Nat.lt_of_lt_of_le HCc.out.2.2.2.1 h1.size, HCc.out.2.2.2.2⟩
      clear h1 h2 HCc hq hv
      have e1 := (HCd.out.2.1.cell 1 _ rfl).1
      have e2 := (HCd.out.2.1.cell 1 _ rfl).2
      go_upto_region 11 with fail
      clear e1 e2
      have HCe : Hid (FnC R S w w1.heap.size w.heap.size (w1.heap.size + 1) t.text l (.slice A l.length c) 0 (.slice none 0 0) P ρ.unit (vd.setCell ⟨pb, 1, none⟩ (.int .i64 n)) ∧ VarAt (vd.setCell ⟨pb, 1, none⟩ (.int .i64 n)) pb [.string (strN tk.text), .int .i64 n]) := ⟨HCd.out.1.pset pb 1 _ HCd.out.2.2.1 HCd.out.2.2.2.2, HCd.out.2.1.set 1 _⟩
      generalize vd.setCell ⟨pb, 1, none⟩ (.int .i64 (n : Int)) = ve at *
      clear HCd
      have e0 := (HCe.out.2.cell 0 _ rfl).1
      have e1 := (HCe.out.2.cell 1 _ rfl).1
      have e2 := HCe.out.1.cells.1.2.1
      have hll := HLe.out
      have HCf : Hid (FnC R S w w1.heap.size w.heap.size (w1.heap.size + 1) t.text l (.slice A l.length c) 0 (.slice none 0 0) P ρ.unit (ve.alloc (.cells #[.string (strN tk.text), .int .i64 n] 87))) := by
       have bt := below_alloc ve (.cells #[.string (strN tk.text), .int .i64 n] 87)
       exact HCe.out.1.moves (Moves.of_below bt (Nat.le_refl _)) (HCe.out.1.st.below bt (Nat.le_refl _))
      have HNw : Hid (∀ (j : Nat) (u : Value), (paC (tk.text, n))[j]? = some u → (ve.alloc (.cells #[.string (strN tk.text), .int .i64 n] 87)).cell? ((Addr.mk ve.heap.size 0 none).add j) = some u) := fun j u hu => by
       rw [Addr.add_mid]
       exact range_of (cs := paC (tk.text, n)) (heap_alloc_new ve _) j u hu
      have HB9 : Hid ((l.length + 1) * 24 ≤ 140737488355328 ∧ l.length + 1 ≤ maxLen) := ⟨by omega, by unfold maxLen; omega⟩
      clear HCe hll
      go_wp2_with (refine wpList_append_one _ rfl (.tmp 42) (.tmp 44) 66 rfl (w1.heap.size + 1) 87 i0 _ 2 24 Tryz.underlying66 hi hz0 hz1 hz2 rfl (Nat.succ_pos 1) _ _ _ rfl HCf.out.own ⟨ve.heap.size, 0, none⟩ 1 (paC (tk.text, n)) rfl rfl HNw.out one2 HB9.out.1 HB9.out.2 HCf.out.lo ?_; intro v' w' ho hg hvv; obtain ⟨A', c', hA'⟩ := own_shape ho; subst hA'; have HCg := Lib.hid (HCf.out.more ho hg).1; have hcL := HCf.out.va.of (HCf.out.more ho hg).2; have hce := (hcL.cell 1 _ rfl).1; have hcf := (hcL.cell 1 _ rfl).2; clear ho hg hvv HNw hcL HCf e0 e1 e2)
      go_roundw
      case rel =>
       have hst := HCg.out
       have hu := HU2.out
       cases hx : (σa.bind fun _ ts => paramP S.z ts) with
       | bad c0 p0 =>
        rw [hx] at hu
        rw [← hu] at hst
        refine ⟨l ++ [(tk.text, n)], A', c', .bad c0 p0, 0, by rw [show (l ++ [(tk.text, n)]).length = l.length + 1 by simp]; exact hst, fun u0 t0 h => (by cases h), fun u0 t0 h => (by cases h), ?_⟩
        rw [HMx.out, hx]
        rfl
       | ok a r0 =>
        obtain ⟨t', r1, n', r2, g1, g2, g3⟩ := HV2.out a r0 hx
        obtain rfl := HVk.out t' r1 g1
        obtain rfl := HVn.out n' r2 g2
        subst g3
        rw [hx] at hu
        rw [← hu] at hst
        refine ⟨l ++ [(tk.text, n)], A', c', .ok () r0, Fx r0, by rw [show (l ++ [(tk.text, n)]).length = l.length + 1 by simp]; exact hst, fun u0 t0 h => ?_, fun u0 t0 h => ?_, ?_⟩
        ·injection h with _ h
         rw [← h]
         exact (HFx.out _ r0 hx).1
        ·injection h with _ h
         rw [← h]
         have := (HFx.out _ r0 hx).2.1
         simp
         omega
        ·rw [HMx.out, hx]
         show _ = (partsG S.z (paramP S.z) (Fx r0) (l ++ [(tk.text, n)]) r0).bind _
         rw [parts_bind]
         rfl
      case measure =>
       have hst := HCg.out.st
       have hu := HU2.out
       have hmm := HMeas.out
       cases hx : (σa.bind fun _ ts => paramP S.z ts) with
       | bad c0 p0 =>
        rw [hx] at hu
        rw [← hu] at hst
        have := meas_bad hst
        omega
       | ok a r0 =>
        rw [hx] at hu
        rw [← hu] at hst
        have := meas_ok hst
        have := (HFx.out a r0 hx).2.2
        omega
 case rest =>
  obtain ⟨l, A, c, σ', hC, hm⟩ := hcut
  generalize wc = w8 at *
  have HC := Lib.hid hC
  obtain ⟨σ4, hσ4⟩ : ∃ s, s = mustR S.z [41] σ' := ⟨_, rfl⟩
  rw [← hσ4] at hm
  have HU4 := Lib.hid hσ4
  have HM := Lib.hid hm
  clear hC hm HL hσ4
  have K := Lib.hid (rmust R S σ' [41] ⟨#[41]⟩ w8 HC.out.st (by kernel_rfl) (by unfold Byn; decide))
  rw [← HU4.out] at K
  go_wp2_with fail
  (with_reducible refine K.out.mono ?_)
  clear K
  rintro x w9 ⟨rfl, h1, h2⟩
  have HC9 := Lib.hid (HC.out.moves h1 h2)
  clear h1 h2 HC
  have K := Lib.hid (rtake R S σ4 [58] ⟨#[58]⟩ w9 HC9.out.st (by kernel_rfl) (by unfold Byn; decide))
  cases hb : isR S.z [58] σ4 with
  | false =>
   have HM2 := Lib.hid (HM.out.trans (fn_no hb))
   rw [hb, pass_false hb] at K
   clear hb HM
   go_wp2_with fail
   (with_reducible refine K.out.mono ?_)
   clear K
   rintro x va ⟨rfl, h1, h2⟩
   have HCa := Lib.hid (HC9.out.moves h1 h2)
   clear h1 h2 HC9
   have HU : Hid (m.unit = (σ4.bind fun _ ts => blockP S.z 32 ts).unit) := by show _ = _; rw [HM2.out]; exact fun_unit _ _
   have HVa : Hid (∀ a r, m = .ok a r → ∃ b r1, (σ4.bind fun _ ts => blockP S.z 32 ts) = .ok b r1 ∧ a = ⟨t.text, l, 0, b, P⟩) := fun a r h => by
    rw [HM2.out] at h
    obtain ⟨b, r0, h1, h2⟩ := bind_val h
    injection h2 with h2 _
    exact ⟨b, r0, h1, h2.symm⟩
   go_wp2_with fail
   have K : Hid (Calls Tryz.prog 73 #[.pointer (some ⟨R, 0, none⟩), .int .i64 1] va (RGot R S (QB va.heap.size) va (σ4.bind fun _ ts => blockP S.z 32 ts))) := HBd.out σ4 va HCa.out.st
   (with_reducible refine K.out.mono ?_)
   clear K
   rintro x vz ⟨m3, ⟨lb, xv, rfl, hq, hv⟩, r3⟩
   have HBz : Hid (BlC (w1.heap.size + 1) vz lb xv) := StsC.more hq fun q hq => ⟨Nat.le_trans HCa.out.lo hq.1, hq.2⟩
   obtain ⟨Ab, cb, rfl⟩ := stsC_slice hq
   have HCz := Lib.hid (HCa.out.moves m3 r3)
   have HVb := Lib.hid hv
   clear m3 r3 hq hv HCa
   have HDz := Lib.hid (HCz.out.set3 (.slice Ab lb.length cb))
   have HEz : Hid (BlC (w1.heap.size + 1) (vz.setCell ⟨w1.heap.size, 3, none⟩ (.slice Ab lb.length cb)) lb (.slice Ab lb.length cb)) := (StsC.same HBz.out fun q hq => set_other q (by have := hq.1; omega)).more fun q hq => ⟨hq.1, by rw [set_size]; exact hq.2⟩
   obtain ⟨⟨q0, q1, q2, q3, q4⟩, ⟨p0, p1, p2, p3⟩⟩ := HCz.out.cells
   clear HCz HBz
   have HVl : Hid (∀ a r, m = .ok a r → a = ⟨t.text, l, 0, lb, P⟩) := fun a r h => by
    obtain ⟨b', r1, e1, e2⟩ := HVa.out a r h
    rw [e2, HVb.out b' r1 e1]
   go_wp2_with (refine wpList_storeN info47s rfl (.tmp 2) (.tmp 57) rfl rfl w.heap.size rfl [_, _, _, _, _] rfl rfl HDz.out.th (by simp [Value.oneCell']) ?_; intro wf g1 g2 g3 g4 g5)
   refine bodyPost_ret (ret_cell (cs := [_, _, _, _, _]) Tryz.results37 Tryz.underlying69 rfl info47s _ _ w.heap.size rfl g1) rfl ?_
   exact HDz.out.done (t := 0) (b := lb) HEz.out m HU.out HVl.out g3 g4 g5
  | true =>
   obtain ⟨σ5, hσ5⟩ : ∃ s, s = passR S.z [58] σ4 := ⟨_, rfl⟩
   obtain ⟨ρ, hρ⟩ : ∃ s, s = typR S.z σ5 := ⟨_, rfl⟩
   have HM2 : Hid (m = ρ.bind fun n r3 => (blockP S.z 32 r3).bind fun b r4 => .ok ⟨t.text, l, n, b, P⟩ r4) := HM.out.trans (by rw [hρ, hσ5]; exact fn_yes hb)
   rw [hb, ← hσ5] at K
   have HU5 := Lib.hid hρ
   clear hb HM hσ5 hρ
   go_wp2_with fail
   (with_reducible refine K.out.mono ?_)
   clear K
   rintro x va ⟨rfl, h1, h2⟩
   have HCa := Lib.hid (HC9.out.moves h1 h2)
   clear h1 h2 HC9
   go_wp2_with fail
   have K := Lib.hid (rtyp R S σ5 va HCa.out.st)
   rw [← HU5.out] at K
   (with_reducible refine K.out.mono ?_)
   clear K
   rintro x vb ⟨h1, ⟨n, xv, rfl, hq, hv⟩, h2⟩
   have hq' : xv = .int .i64 n := hq
   subst hq'
   have HVn := Lib.hid hv
   have HCb := Lib.hid (HCa.out.moves h1 h2)
   clear h1 h2 HCa hq hv
   have e1 := HCb.out.cells.1.2.2.1
   have e2 := HCb.out.cells.2.2.2.1
   have HCc := Lib.hid (HCb.out.set2 n)
   have HU : Hid (m.unit = (ρ.unit.bind fun _ ts => blockP S.z 32 ts).unit) := by show _ = _; rw [HM2.out]; exact then_unit _ _ _
   have HVa : Hid (∀ a r, m = .ok a r → ∃ n r0 b, ρ = .ok n r0 ∧ (ρ.unit.bind fun _ ts => blockP S.z 32 ts) = .ok b r ∧ a = ⟨t.text, l, n, b, P⟩) := fun a r h => by
    rw [HM2.out] at h
    exact then_val h
   go_wp2_with fail
   generalize vb.setCell ⟨w1.heap.size, 2, none⟩ (.int .i64 (n : Int)) = vc at *
   clear e1 e2 HCb
   generalize ρ.unit = σ6 at *
   have K : Hid (Calls Tryz.prog 73 #[.pointer (some ⟨R, 0, none⟩), .int .i64 1] vc (RGot R S (QB vc.heap.size) vc (σ6.bind fun _ ts => blockP S.z 32 ts))) := HBd.out σ6 vc HCc.out.st
   (with_reducible refine K.out.mono ?_)
   clear K
   rintro x vz ⟨m3, ⟨lb, xv, rfl, hq, hv⟩, r3⟩
   have HBz : Hid (BlC (w1.heap.size + 1) vz lb xv) := StsC.more hq fun q hq => ⟨Nat.le_trans HCc.out.lo hq.1, hq.2⟩
   obtain ⟨Ab, cb, rfl⟩ := stsC_slice hq
   have HCz := Lib.hid (HCc.out.moves m3 r3)
   have HVb := Lib.hid hv
   clear m3 r3 hq hv HCc
   have HDz := Lib.hid (HCz.out.set3 (.slice Ab lb.length cb))
   have HEz : Hid (BlC (w1.heap.size + 1) (vz.setCell ⟨w1.heap.size, 3, none⟩ (.slice Ab lb.length cb)) lb (.slice Ab lb.length cb)) := (StsC.same HBz.out fun q hq => set_other q (by have := hq.1; omega)).more fun q hq => ⟨hq.1, by rw [set_size]; exact hq.2⟩
   obtain ⟨⟨q0, q1, q2, q3, q4⟩, ⟨p0, p1, p2, p3⟩⟩ := HCz.out.cells
   clear HCz HBz
   have HVl : Hid (∀ a r, m = .ok a r → a = ⟨t.text, l, n, lb, P⟩) := fun a r h => by
    obtain ⟨n', r0, b', e1, e2, e3⟩ := HVa.out a r h
    rw [e3, HVn.out n' r0 e1, HVb.out b' r e2]
   go_wp2_with (refine wpList_storeN info47s rfl (.tmp 2) (.tmp 57) rfl rfl w.heap.size rfl [_, _, _, _, _] rfl rfl HDz.out.th (by simp [Value.oneCell']) ?_; intro wf g1 g2 g3 g4 g5)
   refine bodyPost_ret (ret_cell (cs := [_, _, _, _, _]) Tryz.results37 Tryz.underlying69 rfl info47s _ _ w.heap.size rfl g1) rfl ?_
   exact HDz.out.done (t := n) (b := lb) HEz.out m HU.out HVl.out g3 g4 g5
end
section
open Go.RowKit
set_option maxRecDepth 100000
set_option linter.unusedSimpArgs false
set_option linter.unusedVariables false
def pgZ : Obj := .cells #[.slice none 0 0] 26
structure PgC (R : Nat) (S : Src) (w : World) (L G lo : Nat) (l : List Fu) (X : Value) (σ : Res Unit) (wr : World) : Prop where
 st : Rs wr R S σ
 va : VarAt wr L [X]
 own : OwnF lo wr l X
 mv : Below w.heap.size w wr
 z : wr.heap[G]? = some pgZ
 hR : w.heap.size ≤ R ∧ R < L
 hL : L < lo
 hG : w.heap.size ≤ G ∧ G < R
 lo : lo ≤ wr.heap.size
section
variable {R : Nat} {S : Src} {w : World} {L G lo : Nat} {l : List Fu} {X : Value} {σ σ' : Res Unit} {wr w' : World}
theorem PgC.moves (h : PgC R S w L G lo l X σ wr) (hm : Moves R wr w') (hs : Rs w' R S σ') : PgC R S w L G lo l X σ' w' := by
 have h1 := h.hR
 have h2 := h.hL
 have h3 := h.lo
 have h4 := h.hG
 exact ⟨hs, h.va.of (hm.block' (by omega) (by omega)), h.own.moves hm (by omega), ⟨hm.os.trans h.mv.os, hm.tape.trans h.mv.tape, hm.output.trans h.mv.output, Nat.le_trans h.mv.size hm.size, fun k hk => (hm.block' (by have := h.mv.size; omega) (by omega)).trans (h.mv.block k hk)⟩, by rw [hm.block' (by omega) (by omega)]; exact h.z, h1, h2, h4, Nat.le_trans h3 hm.size⟩
theorem PgC.more {V : Value} {f : Fu} {k : Two} {ks : List Two} {wb : World} (h : PgC R S w L G lo l X σ wr) (hk : ks.length = l.length) (ho0 : wr.ownsRow lo 69 5 X l.length (fusC l ks)) (h3 : ∀ (i : Nat) (f : Fu) (k : Two), l[i]? = some f → ks[i]? = some k → FuK wr (fun b => (lo ≤ b ∧ some b ≠ X.ownBlock) ∧ b < wr.heap.size) f k)
  (hf : FuK wr (fun b => (lo ≤ b ∧ some b ≠ X.ownBlock) ∧ b < wr.heap.size) f k) (ho : wb.ownsRow lo 69 5 V (l.length + 1) (fusC l ks ++ fuC f k.p k.b)) (hg : wr.grownBy wb X.ownBlock) (hv : V.ownBlock = X.ownBlock ∨ ∃ g, V.ownBlock = some g ∧ wr.heap.size ≤ g) :
  PgC R S w L G lo (l ++ [f]) V σ (wb.setCell ⟨L, 0, none⟩ V) ∧ wb.heap[L]? = wr.heap[L]? := by
 have h1 := h.hR
 have h2 := h.hL
 have h4 := h.hG
 have h5 := h.lo
 have hb : Below lo wr wb := ⟨hg.os, hg.tape, hg.output, hg.size, fun q hq => hg.block q (by omega) fun e => by have := (ho0.lt q e.symm).1; omega⟩
 have hst : ∀ q, q ≠ L → (wb.setCell ⟨L, 0, none⟩ V).heap[q]? = wb.heap[q]? := fun q hq => set_other q hq
 have hsame : ∀ {f : Fu} {k : Two}, FuK wr (fun b => (lo ≤ b ∧ some b ≠ X.ownBlock) ∧ b < wr.heap.size) f k → FuK (wb.setCell ⟨L, 0, none⟩ V) (fun b => (lo ≤ b ∧ some b ≠ V.ownBlock) ∧ b < (wb.setCell ⟨L, 0, none⟩ V).heap.size) f k := fun h =>
  ((h.same (fun b hb => hg.block b hb.2 hb.1.2)).same fun b hb => hst b (by have := hb.1.1; omega)).more fun b hb => ⟨⟨hb.1.1, by
   rcases hv with e | ⟨g, e, hge⟩
   ·rw [e]; exact hb.1.2
   ·rw [e]; intro h2; injection h2; omega⟩, by rw [set_size]; exact Nat.lt_of_lt_of_le hb.2 hg.size⟩
 refine ⟨⟨h.st.keep fun b hb' => by rw [hst b (by omega), hb.block b (by omega)], (h.va.of (hb.block L h2)).set 0 V, ⟨ks ++ [k], by simp [hk], ?_, fun i e q he hq => ?_⟩, (h.mv.trans (hb.mono (by have := h.mv.size; omega))).trans (set_below.mono (by omega)), by rw [hst G (by omega), hb.block G (by omega)]; exact h.z, h1, h2, h4, by rw [set_size]; exact Nat.le_trans h5 hg.size⟩, hb.block L h2⟩
 ·rw [fusC_snoc l ks hk, List.length_append]
  refine ⟨ho.1, ?_⟩
  rcases ho.2 with h' | ⟨g, cap, cur', rfl, hg1, hg2, rest⟩
  ·exact .inl h'
  ·exact .inr ⟨g, cap, cur', rfl, hg1, by rw [hst g (by omega)]; exact hg2, rest⟩
 ·rcases snoc_get he with he | ⟨e1, rfl⟩ <;> rcases snoc_get hq with hq | ⟨e2, rfl⟩
  ·exact hsame (h3 i e q he hq)
  ·have := (List.getElem?_eq_some_iff.1 he).1
   omega
  ·have := (List.getElem?_eq_some_iff.1 hq).1
   omega
  ·exact hsame hf
end
def PgS (R : Nat) (S : Src) (w : World) (L G lo : Nat) (m : Res (List Fu)) (wr : World) : Prop :=
 ∃ l A c σ f, PgC R S w L G lo l (.slice A l.length c) σ wr ∧ (∀ u ts, σ = .ok u ts → ts.length ≤ f) ∧ (∀ u ts, σ = .ok u ts → l.length + ts.length ≤ 4096) ∧ m = σ.bind fun _ ts => moreF S.z f l ts
def PgE (R : Nat) (S : Src) (w : World) (L G lo : Nat) (m : Res (List Fu)) (wr : World) : Prop :=
 ∃ l A c σ, PgC R S w L G lo l (.slice A l.length c) σ wr ∧ (∀ u ts, σ = .ok u ts → ts = []) ∧ m = σ.bind fun _ ts => .ok l ts
theorem prog_exit {z f : Nat} {l : List Fu} {σ : Res Unit} (h : ∀ u ts, σ = .ok u ts → ts = []) : (σ.bind fun _ ts => moreF z f l ts) = σ.bind fun _ ts => .ok l ts := by
 cases σ with
 | bad c p => rfl
 | ok u ts =>
  obtain rfl := h u ts rfl
  exact moreF_nil f
theorem prog_round {z f : Nat} {l : List Fu} {ts : List Tok} (h : ts ≠ []) (hf : ts.length ≤ f) : moreF z f l ts = (funcP z ts).bind fun x r => moreF z (f - 1) (l ++ [x]) r := by
 cases ts with
 | nil => exact absurd rfl h
 | cons t r =>
  obtain ⟨f', rfl⟩ : ∃ f', f = f' + 1 := ⟨f - 1, by simp at hf; omega⟩
  exact moreF_cons
end
end Go.Proofs.YtcilgkdnjgmogaaGreatDoor
