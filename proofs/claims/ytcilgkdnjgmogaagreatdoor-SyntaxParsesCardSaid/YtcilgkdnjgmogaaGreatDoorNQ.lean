/- The document's own reading of a program. -/
import Derived.Test.YtcilgkdnjgmogaaGreatDoorNN
import Derived.Test.YtcilgkdnjgmogaaGreatDoorNO
namespace Go.Proofs.YtcilgkdnjgmogaaGreatDoor
section
open Go.RowKit
set_option maxRecDepth 100000
set_option linter.unusedSimpArgs false
set_option linter.unusedVariables false
def stZ : Obj := .cells #[.int .i64 0, .string ⟨#[]⟩, .slice none 0 0, .slice none 0 0, .slice none 0 0, .int .i64 0] 145
structure SvC (R : Nat) (S : Src) (w : World) (L G lo : Nat) (op : Int) (tx : List Nat) (l : List Ex) (X B F : Value) (p : Int) (σ : Res Unit) (wr : World) : Prop where
 st : Rs wr R S σ
 va : VarAt wr L [.int .i64 op, .string (strN tx), X, B, F, .int .i64 p]
 own : OwnE lo wr l X
 mv : Moves R w wr
 z : wr.heap[G]? = some stZ
 hR : R < w.heap.size
 hL : w.heap.size ≤ L ∧ L < lo
 hG : w.heap.size ≤ G ∧ G < lo
 ne : G ≠ L
 lo : lo ≤ wr.heap.size
section
variable {R : Nat} {S : Src} {w : World} {L G lo : Nat} {op : Int} {tx : List Nat} {l : List Ex} {X B F : Value} {p : Int} {σ σ' : Res Unit} {wr w' : World}
theorem SvC.moves (h : SvC R S w L G lo op tx l X B F p σ wr) (hm : Moves R wr w') (hs : Rs w' R S σ') : SvC R S w L G lo op tx l X B F p σ' w' := by
 have h1 := h.hR
 have h2 := h.hL
 have h3 := h.lo
 have h4 := h.hG
 exact ⟨hs, h.va.of (hm.block' (by omega) (by omega)), h.own.moves hm (by omega), h.mv.trans hm, by rw [hm.block' (by omega) (by omega)]; exact h.z, h1, h2, h4, h.ne, Nat.le_trans h3 hm.size⟩
theorem SvC.setc (h : SvC R S w L G lo op tx l X B F p σ wr) (i : Nat) (v : Value) : Rs (wr.setCell ⟨L, i, none⟩ v) R S σ ∧ OwnE lo (wr.setCell ⟨L, i, none⟩ v) l X ∧ Moves R w (wr.setCell ⟨L, i, none⟩ v) ∧ lo ≤ (wr.setCell ⟨L, i, none⟩ v).heap.size ∧ (wr.setCell ⟨L, i, none⟩ v).heap[G]? = some stZ := by
 have h1 := h.hR
 have h2 := h.hL
 exact ⟨h.st.other (by omega) (fun k hk => set_other k hk), h.own.moves (Moves.set i v) (by omega), h.mv.low set_below h2.1, by rw [set_size]; exact h.lo, by rw [set_other G h.ne]; exact h.z⟩
theorem SvC.set0 (h : SvC R S w L G lo op tx l X B F p σ wr) (op' : Int) : SvC R S w L G lo op' tx l X B F p σ (wr.setCell ⟨L, 0, none⟩ (.int .i64 op')) :=
 ⟨(h.setc 0 _).1, h.va.set 0 _, (h.setc 0 _).2.1, (h.setc 0 _).2.2.1, (h.setc 0 _).2.2.2.2, h.hR, h.hL, h.hG, h.ne, (h.setc 0 _).2.2.2.1⟩
theorem SvC.set1 (h : SvC R S w L G lo op tx l X B F p σ wr) (s : List Nat) : SvC R S w L G lo op s l X B F p σ (wr.setCell ⟨L, 1, none⟩ (.string (strN s))) :=
 ⟨(h.setc 1 _).1, h.va.set 1 _, (h.setc 1 _).2.1, (h.setc 1 _).2.2.1, (h.setc 1 _).2.2.2.2, h.hR, h.hL, h.hG, h.ne, (h.setc 1 _).2.2.2.1⟩
theorem SvC.set3 (h : SvC R S w L G lo op tx l X B F p σ wr) (V : Value) : SvC R S w L G lo op tx l X V F p σ (wr.setCell ⟨L, 3, none⟩ V) :=
 ⟨(h.setc 3 _).1, h.va.set 3 _, (h.setc 3 _).2.1, (h.setc 3 _).2.2.1, (h.setc 3 _).2.2.2.2, h.hR, h.hL, h.hG, h.ne, (h.setc 3 _).2.2.2.1⟩
theorem SvC.set4 (h : SvC R S w L G lo op tx l X B F p σ wr) (V : Value) : SvC R S w L G lo op tx l X B V p σ (wr.setCell ⟨L, 4, none⟩ V) :=
 ⟨(h.setc 4 _).1, h.va.set 4 _, (h.setc 4 _).2.1, (h.setc 4 _).2.2.1, (h.setc 4 _).2.2.2.2, h.hR, h.hL, h.hG, h.ne, (h.setc 4 _).2.2.2.1⟩
theorem SvC.cells (h : SvC R S w L G lo op tx l X B F p σ wr) : (wr.cell? ⟨L, 0, none⟩ = some (.int .i64 op) ∧ wr.cell? ⟨L, 1, none⟩ = some (.string (strN tx)) ∧ wr.cell? ⟨L, 2, none⟩ = some X ∧ wr.cell? ⟨L, 3, none⟩ = some B ∧ wr.cell? ⟨L, 4, none⟩ = some F ∧ wr.cell? ⟨L, 5, none⟩ = some (.int .i64 p)) ∧ (wr.frozen? ⟨L, 0, none⟩ = false ∧ wr.frozen? ⟨L, 1, none⟩ = false ∧ wr.frozen? ⟨L, 2, none⟩ = false ∧ wr.frozen? ⟨L, 3, none⟩ = false ∧ wr.frozen? ⟨L, 4, none⟩ = false) :=
 ⟨⟨(h.va.cell 0 _ rfl).1, (h.va.cell 1 _ rfl).1, (h.va.cell 2 _ rfl).1, (h.va.cell 3 _ rfl).1, (h.va.cell 4 _ rfl).1, (h.va.cell 5 _ rfl).1⟩, (h.va.cell 0 _ rfl).2, (h.va.cell 1 _ rfl).2, (h.va.cell 2 _ rfl).2, (h.va.cell 3 _ rfl).2, (h.va.cell 4 _ rfl).2⟩
def ApartV (lo : Nat) (U : Value) (w : World) (l : List Ex) (k : Value) : Prop := ExsC w (fun b => (lo ≤ b ∧ some b ≠ U.ownBlock) ∧ b < w.heap.size) l k
theorem ApartV.moves {lo : Nat} {U k : Value} {l : List Ex} (h : ApartV lo U wr l k) (hm : Moves R wr w') (hR : R < lo) : ApartV lo U w' l k :=
 (ExsC.same h (hm.same fun q hq => ⟨hq.2, by omega⟩)).more fun q hq => ⟨hq.1, Nat.lt_of_lt_of_le hq.2 hm.size⟩
theorem SvC.apart {l' : List Ex} {k : Value} (h : SvC R S w L G lo op tx l X B F p σ wr) (hk : ExsC w' (Rng wr.heap.size w'.heap.size) l' k) : ApartV lo X w' l' k := by
 obtain ⟨ks, _, ho, _⟩ := h.own
 exact kids_apart hk (fun g hg => (ho.lt g hg).2) h.lo
theorem SvC.more {X' : Value} {y : Ex} {k : Value} {ks : List Value} (h : SvC R S w L G lo op tx l X B F p σ wr) (hk : ks.length = l.length)
  (hkid : ∀ (i : Nat) (e : Ex) (k : Value), l[i]? = some e → ks[i]? = some k → ExsC wr (fun b => (lo ≤ b ∧ some b ≠ X.ownBlock) ∧ b < wr.heap.size) e.kids k) (ho0 : wr.ownsRow lo 202 5 X l.length (exsC l ks)) (ho : w'.ownsRow lo 202 5 X' (l.length + 1) (exsC l ks ++ exC y k)) (hg : wr.grownBy w' X.ownBlock)
  (hV : X'.ownBlock = X.ownBlock ∨ ∃ g, X'.ownBlock = some g ∧ wr.heap.size ≤ g) (hy : ApartV lo X wr y.kids k) : SvC R S w L G lo op tx (l ++ [y]) X' B F p σ (w'.setCell ⟨L, 2, none⟩ X') ∧ w'.heap[L]? = wr.heap[L]? := by
 obtain ⟨O, Bl⟩ := OwnE.grown hk hkid ho0 ho hg hV hy h.lo
 have h1 := h.hR
 have h2 := h.hL
 have h3 := h.hG
 have hs : ∀ b, b ≠ L → (w'.setCell ⟨L, 2, none⟩ X').heap[b]? = w'.heap[b]? := fun b hb => set_other b hb
 exact ⟨⟨h.st.keep fun b hb => by rw [hs b (by omega), Bl.block b (by omega)], (h.va.of (Bl.block L (by omega))).set 2 X', O.moves (Moves.set 2 X') (by omega), (h.mv.low Bl (by omega)).low set_below h2.1, by rw [hs G h.ne, Bl.block G (by omega)]; exact h.z, h1, h2, h3, h.ne, by rw [set_size]; exact Nat.le_trans h.lo Bl.size⟩, Bl.block L (by omega)⟩
theorem SvC.th (h : SvC R S w L G lo op tx l X B F p σ wr) : wr.there G 0 6 := there_cells (cs := [.int .i64 0, .string ⟨#[]⟩, .slice none 0 0, .slice none 0 0, .slice none 0 0, .int .i64 0]) (T := 145) h.z rfl
theorem SvC.start (hs : Rs wr R S σ) (hv : VarAt wr L [.int .i64 op, .string (strN tx), .slice none 0 0, .slice none 0 0, .slice none 0 0, .int .i64 p]) (hm : Moves R w wr) (hz : wr.heap[G]? = some stZ) (hR : R < w.heap.size) (hL : w.heap.size ≤ L ∧ L < wr.heap.size) (hG : w.heap.size ≤ G ∧ G < wr.heap.size) (ne : G ≠ L) :
  SvC R S w L G wr.heap.size op tx [] (.slice none 0 0) (.slice none 0 0) (.slice none 0 0) p σ wr := ⟨hs, hv, OwnE.nothing _ _, hm, hz, hR, hL, hG, ne, Nat.le_refl _⟩
def BlC (lo : Nat) (w : World) (b : List St) (V : Value) : Prop := StsC w (Rng lo w.heap.size) b V
theorem BlC.moves {lo : Nat} {b : List St} {V : Value} (h : BlC lo wr b V) (hm : Moves R wr w') (hR : R < lo) : BlC lo w' b V :=
 (StsC.same h (hm.same fun q hq => ⟨hq.2, by have := hq.1; omega⟩)).more fun q hq => ⟨hq.1, Nat.lt_of_lt_of_le hq.2 hm.size⟩
theorem SvC.done {o : Nat} {b f : List St} {P : Nat} (h : SvC R S w L G lo o tx l X B F P σ wr) (hb : BlC lo wr b B) (hf : BlC lo wr f F) (m : Res St) (hu : m.unit = σ) (hv : ∀ a r, m = .ok a r → a = .mk o tx l b f P)
  (g3 : Below G wr w') (g4 : ∀ k, k ≠ G → w'.heap[k]? = wr.heap[k]?) (g5 : w'.heap.size = wr.heap.size) : RGot R S (QSt w.heap.size) w m (.returned (.agg #[.int .i64 o, .string (strN tx), X, B, F, .int .i64 P])) w' := by
 have h1 := h.hR
 have h2 := h.hL
 have h3 := h.hG
 refine ⟨h.mv.low g3 h3.1, ⟨.mk o tx l b f P, _, rfl, ⟨⟨X, B, F⟩, rfl, ?_, ?_, ?_⟩, fun a r e => (hv a r e).symm⟩, by rw [hu]; exact h.st.other (by omega) g4⟩
 ·exact (h.own.exs.same fun q hq => g4 q (by have := hq.1; omega)).more fun q hq => ⟨by have := hq.1; omega, by rw [g5]; exact hq.2⟩
 ·exact (StsC.same hb fun q hq => g4 q (by have := hq.1; omega)).more fun q hq => ⟨by have := hq.1; omega, by rw [g5]; exact hq.2⟩
 ·exact (StsC.same hf fun q hq => g4 q (by have := hq.1; omega)).more fun q hq => ⟨by have := hq.1; omega, by rw [g5]; exact hq.2⟩
theorem OwnE.slice (h : OwnE lo wr l X) : ∃ A c, X = .slice A l.length c := by
 obtain ⟨ks, _, h, _⟩ := h
 exact own_shape h
end
end
section
open Go.RowKit
set_option maxRecDepth 100000
set_option linter.unusedSimpArgs false
set_option linter.unusedVariables false
def setsR : Res Unit → Bool
 | .ok _ ts => setsT ts
 | .bad _ _ => false
def plainR (z P : Nat) (e : Par Ex) (σ : Res Unit) : Res St :=
 if setsR σ then (σ.bind fun _ ts => setP z e ts).bind fun x r => (wantT z [59] r).bind fun _ r' => .ok (.mk 2 x.1 [x.2] [] [] P) r'
 else (σ.bind fun _ ts => e ts).bind fun x r => (wantT z [59] r).bind fun _ r' => .ok (.mk 8 [] [x] [] [] P) r'
theorem last_unit {α : Type} (z : Nat) (s : List Nat) (f : α → St) (m : Res α) : (m.bind fun x r => (wantT z s r).bind fun _ r' => .ok (f x) r').unit = mustR z s m.unit := by
 cases m with
 | bad c p => rfl
 | ok a r =>
  show (Res.bind (wantT z s r) fun _ r' => Res.ok (f a) r').unit = wantT z s r
  cases wantT z s r <;> rfl
theorem last_val {α : Type} {z : Nat} {s : List Nat} {f : α → St} {m : Res α} {a : St} {r : List Tok} (h : (m.bind fun x r => (wantT z s r).bind fun _ r' => .ok (f x) r') = .ok a r) : ∃ x r0, m = .ok x r0 ∧ a = f x := by
 cases m with
 | bad c p => cases h
 | ok x r0 =>
  refine ⟨x, r0, rfl, ?_⟩
  have h' : (Res.bind (wantT z s r0) fun _ r' => Res.ok (f x) r') = .ok a r := h
  cases hw : wantT z s r0 with
  | bad c p => rw [hw] at h'; cases h'
  | ok u r1 => rw [hw] at h'; injection h' with h' _; exact h'.symm
theorem set_unit (z : Nat) (e : Par Ex) (σ : Res Unit) : (σ.bind fun _ ts => setP z e ts).unit = ((mustR z [61] (σ.bind fun _ ts => takeT z 1 ts).unit).bind fun _ ts => e ts).unit := by
 cases σ with
 | bad c p => rfl
 | ok u ts =>
  show (setP z e ts).unit = _
  unfold setP nameP
  show _ = ((mustR z [61] (takeT z 1 ts).unit).bind fun _ ts => e ts).unit
  cases takeT z 1 ts with
  | bad c p => rfl
  | ok t r =>
   show ((wantT z [61] r).bind fun _ r' => (e r').bind fun x q => Res.ok (t.text, x) q).unit = (Res.bind (wantT z [61] r) fun _ ts => e ts).unit
   cases wantT z [61] r with
   | bad c p => rfl
   | ok u r' =>
    show ((e r').bind fun x q => Res.ok (t.text, x) q).unit = (e r').unit
    cases e r' <;> rfl
theorem set_val {z : Nat} {e : Par Ex} {σ : Res Unit} {x : List Nat × Ex} {r : List Tok} (h : (σ.bind fun _ ts => setP z e ts) = .ok x r) : ∃ t r1 r2, (σ.bind fun _ ts => takeT z 1 ts) = .ok t r1 ∧ ((mustR z [61] (σ.bind fun _ ts => takeT z 1 ts).unit).bind fun _ ts => e ts) = .ok x.2 r2 ∧ x.1 = t.text := by
 cases σ with
 | bad c p => cases h
 | ok u ts =>
  have h' : setP z e ts = .ok x r := h
  unfold setP nameP at h'
  show ∃ t r1 r2, takeT z 1 ts = .ok t r1 ∧ ((mustR z [61] (takeT z 1 ts).unit).bind fun _ ts => e ts) = .ok x.2 r2 ∧ _
  cases ht : takeT z 1 ts with
  | bad c p => rw [ht] at h'; cases h'
  | ok t r1 =>
   rw [ht] at h'
   have h2 : ((wantT z [61] r1).bind fun _ r' => (e r').bind fun x q => Res.ok (t.text, x) q) = .ok x r := h'
   cases hw : wantT z [61] r1 with
   | bad c p => rw [hw] at h2; cases h2
   | ok u r' =>
    rw [hw] at h2
    have h3 : ((e r').bind fun x q => Res.ok (t.text, x) q) = .ok x r := h2
    cases he : e r' with
    | bad c p => rw [he] at h3; cases h3
    | ok y q =>
     rw [he] at h3
     injection h3 with h3 h4
     refine ⟨t, r1, q, rfl, ?_, by rw [← h3]⟩
     show (Res.bind (wantT z [61] r1) fun _ ts => e ts) = _
     rw [hw, ← h3]
     exact he
abbrev stA (P : Nat) : Obj := .cells #[.int .i64 8, .string ⟨#[]⟩, .slice none 0 0, .slice none 0 0, .slice none 0 0, .int .i64 P] 145
set_option maxHeartbeats 1600000 in
theorem rplain (R : Nat) (S : Src) (d : Nat) (e : Par Ex) (he : ExprR R S (d + 1) e) (hd : d < 100) (P : Nat) (σ : Res Unit) (w : World) (ha : Rs w R S σ) (hsm : S.all.length ≤ 4096) :
  Calls Tryz.prog 151 #[.pointer (some ⟨R, 0, none⟩), .agg #[.int .i64 0, .string ⟨#[]⟩, .slice none 0 0, .slice none 0 0, .slice none 0 0, .int .i64 P], .int .i64 d] w (RGot R S (QSt w.heap.size) w (plainR S.z P e σ)) := by
 have HR := Lib.hid ha.lt
 have HE := Lib.hid he
 have HS : Hid (SvC R S w w.heap.size (w.heap.size + 1) (w.heap.size + 2) 8 [] [] (.slice none 0 0) (.slice none 0 0) (.slice none 0 0) P σ ((w.alloc (stA P)).alloc stZ)) := by
  have o1 := open_one ha (stA P)
  have o2 := open_one o1.1 stZ
  have hz := o1.2.2.2.1
  have hv : VarAt ((w.alloc (stA P)).alloc stZ) w.heap.size [.int .i64 8, .string (strN []), .slice none 0 0, .slice none 0 0, .slice none 0 0, .int .i64 P] := (VarAt.block (cs := [.int .i64 8, .string (strN []), .slice none 0 0, .slice none 0 0, .slice none 0 0, .int .i64 P]) (T := 145) o1.2.2.1).of (o2.2.1.block _ (by omega))
  have h0 : SvC R S w w.heap.size (w.heap.size + 1) ((w.alloc (stA P)).alloc stZ).heap.size 8 [] [] (.slice none 0 0) (.slice none 0 0) (.slice none 0 0) P σ ((w.alloc (stA P)).alloc stZ) := SvC.start o2.1 hv ((Moves.of_below o1.2.1 (Nat.le_refl _)).below o2.2.1 (Nat.le_refl _)) (by rw [← hz]; exact o2.2.2.1) HR.out ⟨Nat.le_refl _, by simp; omega⟩ ⟨by omega, by simp⟩ (by omega)
  have hs2 : ((w.alloc (stA P)).alloc stZ).heap.size = w.heap.size + 2 := by simp
  rw [hs2] at h0
  exact h0
 generalize hm : plainR S.z P e σ = m
 have HM := Lib.hid hm
 clear hm ha he
 go_enter Tryz.func151, Tryz.ntmps151
 go_wp2_with fail
 unfold stA at HS
 unfold stZ at HS
 generalize (w.alloc (Obj.cells #[Value.int IntKind.i64 8, Value.string { data := #[] }, Value.slice none 0 0, Value.slice none 0 0, Value.slice none 0 0, Value.int IntKind.i64 ↑P] 145)).alloc (Obj.cells #[Value.int IntKind.i64 0, Value.string { data := #[] }, Value.slice none 0 0, Value.slice none 0 0, Value.slice none 0 0, Value.int IntKind.i64 0] 145) = w0 at *
 go_upto_region 2 with fail
 go_cut [69] (fun b wx => b = .bool (setsR σ) ∧ ∃ n, wx = w0.drewN n)
 case first =>
  have hst := HS.out.st
  cases σ with
  | bad c p =>
   have HV : Hid (setsR (.bad c p) = false) := rfl
   obtain ⟨hne, i, hg⟩ := hst
   obtain ⟨_, _, c2, _, _⟩ := hg.cells
   have q1 : (((c : Nat) : Int) == 0) = false := by rw [beq_eq_false_iff_ne]; omega
   clear hne hg
   go_quiet (fail)
   go_wp2
   go_meet
   exact ⟨by rw [HV.out], _, rfl⟩
  | ok u ts =>
   obtain ⟨i, hts, hg⟩ := hst
   obtain ⟨c0, c1, c2, _, _⟩ := hg.cells
   obtain ⟨m1, m2⟩ := hg.len
   unfold Src.V at c0
   have hle := hg.2.1
   by_cases hi : i + 1 < S.all.length
   ·obtain ⟨g, a, hgg, _, ⟨a0, _, _, _⟩, _, hda⟩ := hg.tok (by omega : i < S.all.length)
    have hb := (hg.1.2.2.2.2 g hgg).2 (i + 1) (S.all[i + 1]) (List.getElem?_eq_getElem hi)
    have hyb := hg.1.2.2.1 _ (List.getElem_mem hi)
    have hdb : S.all.drop (i + 1) = S.all[i + 1] :: S.all.drop (i + 2) := List.drop_eq_getElem_cons hi
    generalize S.all[i + 1] = b at hb hyb hdb
    obtain ⟨k0, k1, _, _⟩ := hb
    have HTs : Hid (setsR (.ok u ts) = (decide (a.kind = 1) && isOne [[61]] b)) := by show setsT ts = _; rw [hts, hda, hdb]; rfl
    rw [hgg] at c0
    simp only [Option.map_some] at c0
    have HI := Lib.hid hi
    have hwrap : IntKind.i64.wrap ((i : Int) + 1) = (i : Int) + 1 := IntWalk.i64_in _ (by omega)
    have h0 : (0 : Int) ≤ (i : Int) + 1 := by omega
    have htn : ((i : Int) + 1).toNat = i + 1 := by omega
    have hlt : (i : Int) + 1 < (S.all.length : Int) := by omega
    have hlt' : i < S.all.length := by omega
    clear hts hg hda hdb hgg hi
    by_cases hk : a.kind = 1
    ·have q1 : (((a.kind : Nat) : Int) == 1) = true := by rw [hk]; rfl
     by_cases hk4 : b.kind = 4
     ·have q4 : (((b.kind : Nat) : Int) == 4) = true := by rw [hk4]; rfl
      have hq := strN_eq (b := [61]) hyb (by unfold Byn; decide)
      rw [show (strN [61]).toList = [61] by kernel_rfl] at hq
      by_cases ht : b.text = [61]
      ·have HV : Hid (setsR (.ok u ts) = true) := by show _ = _; rw [HTs.out, decide_eq_true hk]; simp [isOne, hk4, ht]
       rw [decide_eq_true ht] at hq
       clear hk hk4 ht hyb
       go_quiet (fail)
       go_wp2
       go_meet
       exact ⟨by rw [HV.out], _, rfl⟩
      ·have HV : Hid (setsR (.ok u ts) = false) := by show _ = _; rw [HTs.out, decide_eq_true hk]; simp [isOne, ht]
       rw [decide_eq_false ht] at hq
       clear hk hk4 ht hyb
       go_quiet (fail)
       go_wp2
       go_meet
       exact ⟨by rw [HV.out], _, rfl⟩
     ·have q4 : (((b.kind : Nat) : Int) == 4) = false := by rw [beq_eq_false_iff_ne]; omega
      have HV : Hid (setsR (.ok u ts) = false) := by show _ = _; rw [HTs.out, decide_eq_true hk]; simp [isOne, hk4]
      clear hk hk4 hyb
      go_quiet (fail)
      go_wp2
      go_meet
      exact ⟨by rw [HV.out], _, rfl⟩
    ·have q1 : (((a.kind : Nat) : Int) == 1) = false := by rw [beq_eq_false_iff_ne]; omega
     have HV : Hid (setsR (.ok u ts) = false) := by show _ = _; rw [HTs.out, decide_eq_false hk]; rfl
     clear hk
     go_quiet (fail)
     go_wp2
     go_meet
     exact ⟨by rw [HV.out], _, rfl⟩
   ·have HV : Hid (setsR (.ok u ts) = false) := by
     show setsT ts = _
     have hl : ts.length ≤ 1 := by rw [hts]; simp; omega
     match ts, hl with
     | [], _ => rfl
     | [t], _ => rfl
    have hwrap : IntKind.i64.wrap ((i : Int) + 1) = (i : Int) + 1 := IntWalk.i64_in _ (by omega)
    have hlt : decide ((i : Int) + 1 < (S.all.length : Int)) = false := by simp; omega
    clear hts hg hi hle
    go_quiet (fail)
    go_wp2
    go_meet
    exact ⟨by rw [HV.out], _, rfl⟩
 case rest =>
  obtain ⟨rfl, n, rfl⟩ := hcut
  have HS1 := Lib.hid (HS.out.moves (Moves.of_below (below_drewN (Below.refl w0.heap.size w0) n) (Nat.le_refl _)) (HS.out.st.below (below_drewN (Below.refl w0.heap.size w0) n) (Nat.le_refl _)))
  clear HS
  generalize w0.drewN n = w1 at *
  obtain ⟨i0, hi, hz0, hz1, hz2⟩ := info_parts info39
  have hwrap : IntKind.i64.wrap ((d : Int) + 1) = (d : Int) + 1 := IntWalk.i64_in _ (by omega)
  have hRlo : R < w.heap.size + 2 := by have := HR.out; omega
  cases hb : setsR σ with
  | false =>
   have HM2 : Hid (((σ.bind fun _ ts => e ts).bind fun x r => (wantT S.z [59] r).bind fun _ r' => .ok (.mk 8 [] [x] [] [] P) r') = m) := by show _ = _; rw [← HM.out]; unfold plainR; rw [hb]; rfl
   have HU : Hid (m.unit = mustR S.z [59] (σ.bind fun _ ts => e ts).unit) := by show _ = _; rw [← HM2.out]; exact last_unit _ _ _ _
   clear hb
   go_wp2_with fail
   go_upto_region 6 with fail
   have K0 : Hid (∀ w1, Rs w1 R S σ → Calls Tryz.prog 150 #[.pointer (some ⟨R, 0, none⟩), .int .i64 ((d : Int) + 1)] w1 (RGot R S (QE w1.heap.size) w1 (σ.bind fun _ ts => e ts))) := fun w1 h => HE.out _ w1 h
   go_cut [] (fun wx => ∃ (v : Ex) (A' : Option Addr) (c' : Nat), Hid (SvC R S w w.heap.size (w.heap.size + 1) (w.heap.size + 2) 8 [] [v] (.slice A' 1 c') (.slice none 0 0) (.slice none 0 0) P (σ.bind fun _ ts => e ts).unit wx) ∧ Hid (∀ a r, (σ.bind fun _ ts => e ts) = .ok a r → v = a))
   case first =>
    have HD := Lib.hid (HS1.out.moves (w' := w1.drew) ⟨rfl, rfl, rfl, Nat.le_refl _, fun _ _ _ => rfl⟩ (HS1.out.st.below ((Below.refl w1.heap.size w1).drew) (Nat.le_refl _)))
    refine wp_region_held_drew (S := fun _ => True) (by kernel_rfl) trivial (fun hHeld => ?_)
    refine wpAnyH_take (i := 0) (v := ?vp1_0) rfl (by kernel_rfl) (by kernel_rfl) (by kernel_rfl) (fun _ _ _ h => h) (Or.inl ⟨by kernel_rfl, ?yp1_0⟩) (by assumption) ?rp1_0
    case yp1_0 => (intro w hSw; (try dsimp only at hSw); go_simp; (try with_reducible rfl))
    try simp only [Act.put, List.getElem_toArray, List.getElem_cons_zero, List.getElem_cons_succ, List.setIfInBounds_toArray, List.set_cons_zero, List.set_cons_succ]
    refine wpAnyH_take (i := 2) (v := ?vp1_2) rfl (by kernel_rfl) (by kernel_rfl) (by kernel_rfl) (fun _ _ _ h => h) (Or.inl ⟨by kernel_rfl, ?yp1_2⟩) (by assumption) ?rp1_2
    case yp1_2 => (intro w hSw; (try dsimp only at hSw); go_simp; (try with_reducible rfl))
    try simp only [Act.put, List.getElem_toArray, List.getElem_cons_zero, List.getElem_cons_succ, List.setIfInBounds_toArray, List.set_cons_zero, List.set_cons_succ]
    refine wpAnyH_take (i := 3) (v := ?vp1_3) rfl (by kernel_rfl) (by kernel_rfl) (by kernel_rfl) (fun _ _ _ h => h) (Or.inl ⟨by kernel_rfl, ?yp1_3⟩) (by assumption) ?rp1_3
    case yp1_3 => (intro w hSw; (try dsimp only at hSw); go_simp; (try with_reducible rfl))
    try simp only [Act.put, List.getElem_toArray, List.getElem_cons_zero, List.getElem_cons_succ, List.setIfInBounds_toArray, List.set_cons_zero, List.set_cons_succ]
    refine wpAnyH_take (i := 4) (v := ?vp1_4) rfl (by kernel_rfl) (by kernel_rfl) (by kernel_rfl) (fun _ _ _ h => h) (Or.inl ⟨by kernel_rfl, ?yp1_4⟩) (by assumption) ?rp1_4
    case yp1_4 => (intro w hSw; (try dsimp only at hSw); go_simp; (try with_reducible rfl))
    try simp only [Act.put, List.getElem_toArray, List.getElem_cons_zero, List.getElem_cons_succ, List.setIfInBounds_toArray, List.set_cons_zero, List.set_cons_succ]
    generalize w1.drew = wd at *
    refine wpAnyH_ready (rs := [1, 5]) (by kernel_rfl) (by simp) ?_
    refine AllReadyH.cons rfl (fun K hK => ?_) (AllReadyH.cons rfl (fun K hK => ?_) AllReadyH.nil)
    ·have hce := HD.out.cells.1.2.2.1
     go_simp
     clear hce
     refine hK.out _ _ trivial (fun hHeld => ?_)
     clear hK K
     refine wpAnyH_ready (rs := [5]) (by kernel_rfl) (by simp) ?_
     refine AllReadyH.cons rfl (fun K hK => ?_) AllReadyH.nil
     go_simp
     (try simp only [hwrap])
     with_reducible refine (K0.out wd HD.out.st).mono ?_
     rintro x wc3 ⟨hm, ⟨v, xv, rfl, hq, hv⟩, r2⟩
     obtain ⟨kk, rfl, hk, hk1⟩ := exV_cells hq
     obtain ⟨Ak, ck, rfl⟩ := exsC_slice hk
     have C3 := Lib.hid (HD.out.moves hm r2)
     have Y3 := Lib.hid (HD.out.apart hk)
     have HV := Lib.hid hv
     clear hm r2 hk hq hk1 hv
     refine hK.out _ _ trivial (fun hHeld => ?_)
     clear hK K
     refine wpAnyH_ready (rs := [6]) (by kernel_rfl) (by simp) ?_
     refine AllReadyH.cons rfl (fun K hK => ?_) AllReadyH.nil
     go_simp
     have mz := Moves.of_below (R := R) (below_alloc wc3 (exO v (.slice Ak v.kids.length ck))) (Nat.le_refl _)
     have C4 := Lib.hid (C3.out.moves mz (C3.out.st.below (below_alloc wc3 (exO v (.slice Ak v.kids.length ck))) (Nat.le_refl _)))
     have Z4 := Lib.hid (heap_alloc_new wc3 (exO v (.slice Ak v.kids.length ck)))
     have Y4 := Lib.hid (Y3.out.moves mz hRlo)
     clear mz
     generalize wc3.alloc (exO v (.slice Ak v.kids.length ck)) = wb4 at *
     refine hK.out _ _ trivial (fun hHeld => ?_)
     clear hK K
     obtain ⟨ks, hks, hown, hkid⟩ := C4.out.own
     have HO := Lib.hid hown
     have HKd := Lib.hid hkid
     clear hown hkid
     have HNw : Hid (∀ (j : Nat) (u : Value), (exC v (.slice Ak v.kids.length ck))[j]? = some u → wb4.cell? ((Addr.mk (wc3.heap.size) 0 none).add j) = some u) := fun j u hu => by
      rw [Addr.add_mid]
      exact range_of (cs := (exC v (.slice Ak v.kids.length ck))) Z4.out j u hu
     refine wpAnyH_ready (rs := [7]) (by kernel_rfl) (by simp) ?_
     refine AllReadyH.cons rfl (fun K hK => ?_) AllReadyH.nil
     rw [if_pos (by rfl)]
     refine wp_append_one _ (.tmp 78) (.tmp 83) 143 rfl ((w.heap.size + 2)) 202 i0 _ 5 64 Tryz.underlying143 hi hz0 hz1 hz2 rfl (by omega) _ _ _ rfl HO.out ⟨wc3.heap.size, 0, none⟩ 1 (exC v (.slice Ak v.kids.length ck)) rfl rfl HNw.out one5 (by (try simp only [List.length_cons, List.length_nil]); omega) (by simp; unfold maxLen; omega) C4.out.lo ?_
     intro v' w' ho hg hvv
     obtain ⟨A', c', hA'⟩ := own_shape ho
     subst hA'
     have M5 := Lib.hid (C4.out.more hks HKd.out HO.out ho hg hvv Y4.out).1
     have hcL := C4.out.va.of (C4.out.more hks HKd.out HO.out ho hg hvv Y4.out).2
     have hce := (hcL.cell 2 _ rfl).1
     have hcf := (hcL.cell 2 _ rfl).2
     clear ho hg hvv HO HKd HNw hcL
     refine hK.out _ _ trivial (fun hHeld => ?_)
     clear hK K
     simp only [Act.put, List.setIfInBounds_toArray, List.set_cons_zero, List.set_cons_succ]
     refine wpAnyH_take (i := 8) (v := ?vp1_t5) rfl (by kernel_rfl) (by kernel_rfl) (by kernel_rfl) (fun _ _ _ h => h) (Or.inl ⟨by kernel_rfl, ?yp1_t5⟩) (by assumption) ?rp1_t5
     case yp1_t5 => (intro w hSw; (try dsimp only at hSw); go_simp; (try with_reducible rfl))
     try simp only [Act.put, List.getElem_toArray, List.getElem_cons_zero, List.getElem_cons_succ, List.setIfInBounds_toArray, List.set_cons_zero, List.set_cons_succ]
     refine wpAnyH_ready (rs := [9]) (by kernel_rfl) (by simp) ?_
     refine AllReadyH.cons rfl (fun K hK => ?_) AllReadyH.nil
     go_simp
     refine hK.out _ _ trivial (fun hHeld => ?_)
     clear hK K hce hcf
     refine wpAnyH_done (by kernel_rfl) ?_ _
     go_wp2
     go_meet
     exact ⟨v, A', c', M5, HV⟩
    ·go_simp
     (try simp only [hwrap])
     with_reducible refine (K0.out wd HD.out.st).mono ?_
     rintro x wc6 ⟨hm, ⟨v, xv, rfl, hq, hv⟩, r2⟩
     obtain ⟨kk, rfl, hk, hk1⟩ := exV_cells hq
     obtain ⟨Ak, ck, rfl⟩ := exsC_slice hk
     have C6 := Lib.hid (HD.out.moves hm r2)
     have Y6 := Lib.hid (HD.out.apart hk)
     have HV := Lib.hid hv
     clear hm r2 hk hq hk1 hv
     refine hK.out _ _ trivial (fun hHeld => ?_)
     clear hK K
     refine wpAnyH_ready (rs := [1, 6]) (by kernel_rfl) (by simp) ?_
     refine AllReadyH.cons rfl (fun K hK => ?_) (AllReadyH.cons rfl (fun K hK => ?_) AllReadyH.nil)
     ·have hce := C6.out.cells.1.2.2.1
      go_simp
      clear hce
      refine hK.out _ _ trivial (fun hHeld => ?_)
      clear hK K
      refine wpAnyH_ready (rs := [6]) (by kernel_rfl) (by simp) ?_
      refine AllReadyH.cons rfl (fun K hK => ?_) AllReadyH.nil
      go_simp
      have mz := Moves.of_below (R := R) (below_alloc wc6 (exO v (.slice Ak v.kids.length ck))) (Nat.le_refl _)
      have C8 := Lib.hid (C6.out.moves mz (C6.out.st.below (below_alloc wc6 (exO v (.slice Ak v.kids.length ck))) (Nat.le_refl _)))
      have Z8 := Lib.hid (heap_alloc_new wc6 (exO v (.slice Ak v.kids.length ck)))
      have Y8 := Lib.hid (Y6.out.moves mz hRlo)
      clear mz
      generalize wc6.alloc (exO v (.slice Ak v.kids.length ck)) = wb8 at *
      refine hK.out _ _ trivial (fun hHeld => ?_)
      clear hK K
      obtain ⟨ks, hks, hown, hkid⟩ := C8.out.own
      have HO := Lib.hid hown
      have HKd := Lib.hid hkid
      clear hown hkid
      have HNw : Hid (∀ (j : Nat) (u : Value), (exC v (.slice Ak v.kids.length ck))[j]? = some u → wb8.cell? ((Addr.mk (wc6.heap.size) 0 none).add j) = some u) := fun j u hu => by
       rw [Addr.add_mid]
       exact range_of (cs := (exC v (.slice Ak v.kids.length ck))) Z8.out j u hu
      refine wpAnyH_ready (rs := [7]) (by kernel_rfl) (by simp) ?_
      refine AllReadyH.cons rfl (fun K hK => ?_) AllReadyH.nil
      rw [if_pos (by rfl)]
      refine wp_append_one _ (.tmp 78) (.tmp 83) 143 rfl ((w.heap.size + 2)) 202 i0 _ 5 64 Tryz.underlying143 hi hz0 hz1 hz2 rfl (by omega) _ _ _ rfl HO.out ⟨wc6.heap.size, 0, none⟩ 1 (exC v (.slice Ak v.kids.length ck)) rfl rfl HNw.out one5 (by (try simp only [List.length_cons, List.length_nil]); omega) (by simp; unfold maxLen; omega) C8.out.lo ?_
      intro v' w' ho hg hvv
      obtain ⟨A', c', hA'⟩ := own_shape ho
      subst hA'
      have M9 := Lib.hid (C8.out.more hks HKd.out HO.out ho hg hvv Y8.out).1
      have hcL := C8.out.va.of (C8.out.more hks HKd.out HO.out ho hg hvv Y8.out).2
      have hce := (hcL.cell 2 _ rfl).1
      have hcf := (hcL.cell 2 _ rfl).2
      clear ho hg hvv HO HKd HNw hcL
      refine hK.out _ _ trivial (fun hHeld => ?_)
      clear hK K
      simp only [Act.put, List.setIfInBounds_toArray, List.set_cons_zero, List.set_cons_succ]
      refine wpAnyH_take (i := 8) (v := ?vp1_t9) rfl (by kernel_rfl) (by kernel_rfl) (by kernel_rfl) (fun _ _ _ h => h) (Or.inl ⟨by kernel_rfl, ?yp1_t9⟩) (by assumption) ?rp1_t9
      case yp1_t9 => (intro w hSw; (try dsimp only at hSw); go_simp; (try with_reducible rfl))
      try simp only [Act.put, List.getElem_toArray, List.getElem_cons_zero, List.getElem_cons_succ, List.setIfInBounds_toArray, List.set_cons_zero, List.set_cons_succ]
      refine wpAnyH_ready (rs := [9]) (by kernel_rfl) (by simp) ?_
      refine AllReadyH.cons rfl (fun K hK => ?_) AllReadyH.nil
      go_simp
      refine hK.out _ _ trivial (fun hHeld => ?_)
      clear hK K hce hcf
      refine wpAnyH_done (by kernel_rfl) ?_ _
      go_wp2
      go_meet
      exact ⟨v, A', c', M9, HV⟩
     ·go_simp
      have mz := Moves.of_below (R := R) (below_alloc wc6 (exO v (.slice Ak v.kids.length ck))) (Nat.le_refl _)
      have C10 := Lib.hid (C6.out.moves mz (C6.out.st.below (below_alloc wc6 (exO v (.slice Ak v.kids.length ck))) (Nat.le_refl _)))
      have Z10 := Lib.hid (heap_alloc_new wc6 (exO v (.slice Ak v.kids.length ck)))
      have Y10 := Lib.hid (Y6.out.moves mz hRlo)
      clear mz
      generalize wc6.alloc (exO v (.slice Ak v.kids.length ck)) = wb10 at *
      refine hK.out _ _ trivial (fun hHeld => ?_)
      clear hK K
      refine wpAnyH_ready (rs := [1]) (by kernel_rfl) (by simp) ?_
      refine AllReadyH.cons rfl (fun K hK => ?_) AllReadyH.nil
      have hce := C10.out.cells.1.2.2.1
      go_simp
      clear hce
      refine hK.out _ _ trivial (fun hHeld => ?_)
      clear hK K
      obtain ⟨ks, hks, hown, hkid⟩ := C10.out.own
      have HO := Lib.hid hown
      have HKd := Lib.hid hkid
      clear hown hkid
      have HNw : Hid (∀ (j : Nat) (u : Value), (exC v (.slice Ak v.kids.length ck))[j]? = some u → wb10.cell? ((Addr.mk (wc6.heap.size) 0 none).add j) = some u) := fun j u hu => by
       rw [Addr.add_mid]
       exact range_of (cs := (exC v (.slice Ak v.kids.length ck))) Z10.out j u hu
      refine wpAnyH_ready (rs := [7]) (by kernel_rfl) (by simp) ?_
      refine AllReadyH.cons rfl (fun K hK => ?_) AllReadyH.nil
      rw [if_pos (by rfl)]
      refine wp_append_one _ (.tmp 78) (.tmp 83) 143 rfl ((w.heap.size + 2)) 202 i0 _ 5 64 Tryz.underlying143 hi hz0 hz1 hz2 rfl (by omega) _ _ _ rfl HO.out ⟨wc6.heap.size, 0, none⟩ 1 (exC v (.slice Ak v.kids.length ck)) rfl rfl HNw.out one5 (by (try simp only [List.length_cons, List.length_nil]); omega) (by simp; unfold maxLen; omega) C10.out.lo ?_
      intro v' w' ho hg hvv
      obtain ⟨A', c', hA'⟩ := own_shape ho
      subst hA'
      have M12 := Lib.hid (C10.out.more hks HKd.out HO.out ho hg hvv Y10.out).1
      have hcL := C10.out.va.of (C10.out.more hks HKd.out HO.out ho hg hvv Y10.out).2
      have hce := (hcL.cell 2 _ rfl).1
      have hcf := (hcL.cell 2 _ rfl).2
      clear ho hg hvv HO HKd HNw hcL
      refine hK.out _ _ trivial (fun hHeld => ?_)
      clear hK K
      simp only [Act.put, List.setIfInBounds_toArray, List.set_cons_zero, List.set_cons_succ]
      refine wpAnyH_take (i := 8) (v := ?vp1_t12) rfl (by kernel_rfl) (by kernel_rfl) (by kernel_rfl) (fun _ _ _ h => h) (Or.inl ⟨by kernel_rfl, ?yp1_t12⟩) (by assumption) ?rp1_t12
      case yp1_t12 => (intro w hSw; (try dsimp only at hSw); go_simp; (try with_reducible rfl))
      try simp only [Act.put, List.getElem_toArray, List.getElem_cons_zero, List.getElem_cons_succ, List.setIfInBounds_toArray, List.set_cons_zero, List.set_cons_succ]
      refine wpAnyH_ready (rs := [9]) (by kernel_rfl) (by simp) ?_
      refine AllReadyH.cons rfl (fun K hK => ?_) AllReadyH.nil
      go_simp
      refine hK.out _ _ trivial (fun hHeld => ?_)
      clear hK K hce hcf
      refine wpAnyH_done (by kernel_rfl) ?_ _
      go_wp2
      go_meet
      exact ⟨v, A', c', M12, HV⟩
   case rest =>
    obtain ⟨v, A6, c6, HC, HV⟩ := hcut
    generalize wc = w8 at *
    have HVl : Hid (∀ a r, m = .ok a r → a = .mk 8 [] [v] [] [] P) := fun a r h => by
     rw [← HM2.out] at h
     obtain ⟨x, r0, h1, h2⟩ := last_val h
     rw [h2, HV.out x r0 h1]
    have K := Lib.hid (rmust R S _ [59] ⟨#[59]⟩ w8 HC.out.st (by kernel_rfl) (by unfold Byn; decide))
    go_wp2_with fail
    (with_reducible refine K.out.mono ?_)
    clear K
    rintro x w9 ⟨rfl, h1, h2⟩
    have HZ := Lib.hid (HC.out.moves h1 h2)
    clear h1 h2
    obtain ⟨⟨l0, l1, l2, l3, l4, l5⟩, _⟩ := HZ.out.cells
    go_wp2_with (refine wpList_storeN info43s rfl (.tmp 6) (.tmp 88) rfl rfl (w.heap.size + 1) rfl [_, _, _, _, _, _] rfl rfl HZ.out.th (by simp [Value.oneCell']) ?_; intro wf g1 g2 g3 g4 g5)
    refine bodyPost_ret (ret_cell (cs := [_, _, _, _, _, _]) Tryz.results151 Tryz.underlying145 rfl info43s _ _ (w.heap.size + 1) rfl g1) rfl ?_
    exact HZ.out.done (o := 8) (b := []) (f := []) (StsC.nothing _ _) (StsC.nothing _ _) m HU.out HVl.out g3 g4 g5
  | true =>
   have HM2 : Hid (((σ.bind fun _ ts => setP S.z e ts).bind fun x r => (wantT S.z [59] r).bind fun _ r' => .ok (.mk 2 x.1 [x.2] [] [] P) r') = m) := by show _ = _; rw [← HM.out]; unfold plainR; rw [hb]; rfl
   obtain ⟨τ, hτ⟩ : ∃ τ, τ = (σ.bind fun _ ts => takeT S.z 1 ts) := ⟨_, rfl⟩
   obtain ⟨σ2, hσ2⟩ : ∃ σ2, σ2 = mustR S.z [61] τ.unit := ⟨_, rfl⟩
   have HU : Hid (m.unit = mustR S.z [59] (σ2.bind fun _ ts => e ts).unit) := by show _ = _; rw [← HM2.out, hσ2, hτ]; exact (last_unit _ _ _ _).trans (by rw [set_unit])
   have HVa : Hid (∀ a r, m = .ok a r → ∃ t r1 x r2, τ = .ok t r1 ∧ (σ2.bind fun _ ts => e ts) = .ok x r2 ∧ a = .mk 2 t.text [x] [] [] P) := fun a r h => by
    rw [← HM2.out] at h
    obtain ⟨x, r0, h1, h2⟩ := last_val h
    obtain ⟨t, r1, r2, h3, h4, h5⟩ := set_val h1
    exact ⟨t, r1, x.2, r2, by rw [hτ]; exact h3, by rw [hσ2, hτ]; exact h4, by rw [h2, h5]⟩
   have HT2 := Lib.hid hσ2
   have HT1 := Lib.hid hτ
   clear hb hτ hσ2
   have f0 := HS1.out.cells
   have c0 := f0.1.1
   have b0 := f0.2.1
   clear f0
   have HS2 := Lib.hid (HS1.out.set0 2)
   go_wp2_with fail
   generalize w1.setCell ⟨w.heap.size, 0, none⟩ (.int .i64 2) = w2 at *
   have K : Hid (Calls Tryz.prog 69 #[.pointer (some ⟨R, 0, none⟩), .int .i64 1] w2 (RGot R S QT w2 τ)) := by rw [HT1.out]; exact rkind R S σ 1 (by omega) w2 HS2.out.st
   (with_reducible refine K.out.mono ?_)
   clear K c0 b0 HS1
   rintro x w3 ⟨m3, ⟨t, xv, rfl, hq, hv⟩, r3⟩
   have hq' : xv = tokV t := hq
   subst hq'
   have HS3 := Lib.hid (HS2.out.moves m3 r3)
   have HVt := Lib.hid hv
   clear m3 r3 hq hv
   simp only [tokV, tokC]
   have HS4 := Lib.hid (HS3.out.set1 t.text)
   have f0 := HS3.out.cells
   have c0 := f0.1.2.1
   have b0 := f0.2.2.1
   clear f0
   have hf := fun w' => (run_field77 w' t).2
   go_wp2_with fail
   clear hf
   generalize w3.setCell ⟨w.heap.size, 1, none⟩ (.string (strN t.text)) = w4 at *
   have K : Hid (Calls Tryz.prog 68 #[.pointer (some ⟨R, 0, none⟩), .string ⟨#[61]⟩] w4 fun x w' => x = .returned (.tuple #[]) ∧ Moves R w4 w' ∧ Rs w' R S σ2) := by rw [HT2.out]; exact rmust R S _ [61] ⟨#[61]⟩ w4 HS4.out.st (by kernel_rfl) (by unfold Byn; decide)
   (with_reducible refine K.out.mono ?_)
   clear K c0 b0 HS2 HS3
   rintro x w5 ⟨rfl, h1, h2⟩
   have HS5 := Lib.hid (HS4.out.moves h1 h2)
   clear h1 h2 HS4
   go_wp2_with fail
   go_upto_region 6 with fail
   have K0 : Hid (∀ w1, Rs w1 R S σ2 → Calls Tryz.prog 150 #[.pointer (some ⟨R, 0, none⟩), .int .i64 ((d : Int) + 1)] w1 (RGot R S (QE w1.heap.size) w1 (σ2.bind fun _ ts => e ts))) := fun w1 h => HE.out _ w1 h
   go_cut [] (fun wx => ∃ (v : Ex) (A' : Option Addr) (c' : Nat), Hid (SvC R S w w.heap.size (w.heap.size + 1) (w.heap.size + 2) 2 t.text [v] (.slice A' 1 c') (.slice none 0 0) (.slice none 0 0) P (σ2.bind fun _ ts => e ts).unit wx) ∧ Hid (∀ a r, (σ2.bind fun _ ts => e ts) = .ok a r → v = a))
   case first =>
    have HD := Lib.hid (HS5.out.moves (w' := w5.drew) ⟨rfl, rfl, rfl, Nat.le_refl _, fun _ _ _ => rfl⟩ (HS5.out.st.below ((Below.refl w5.heap.size w5).drew) (Nat.le_refl _)))
    refine wp_region_held_drew (S := fun _ => True) (by kernel_rfl) trivial (fun hHeld => ?_)
    refine wpAnyH_take (i := 0) (v := ?vp13_0) rfl (by kernel_rfl) (by kernel_rfl) (by kernel_rfl) (fun _ _ _ h => h) (Or.inl ⟨by kernel_rfl, ?yp13_0⟩) (by assumption) ?rp13_0
    case yp13_0 => (intro w hSw; (try dsimp only at hSw); go_simp; (try with_reducible rfl))
    try simp only [Act.put, List.getElem_toArray, List.getElem_cons_zero, List.getElem_cons_succ, List.setIfInBounds_toArray, List.set_cons_zero, List.set_cons_succ]
    refine wpAnyH_take (i := 2) (v := ?vp13_2) rfl (by kernel_rfl) (by kernel_rfl) (by kernel_rfl) (fun _ _ _ h => h) (Or.inl ⟨by kernel_rfl, ?yp13_2⟩) (by assumption) ?rp13_2
    case yp13_2 => (intro w hSw; (try dsimp only at hSw); go_simp; (try with_reducible rfl))
    try simp only [Act.put, List.getElem_toArray, List.getElem_cons_zero, List.getElem_cons_succ, List.setIfInBounds_toArray, List.set_cons_zero, List.set_cons_succ]
    refine wpAnyH_take (i := 3) (v := ?vp13_3) rfl (by kernel_rfl) (by kernel_rfl) (by kernel_rfl) (fun _ _ _ h => h) (Or.inl ⟨by kernel_rfl, ?yp13_3⟩) (by assumption) ?rp13_3
    case yp13_3 => (intro w hSw; (try dsimp only at hSw); go_simp; (try with_reducible rfl))
    try simp only [Act.put, List.getElem_toArray, List.getElem_cons_zero, List.getElem_cons_succ, List.setIfInBounds_toArray, List.set_cons_zero, List.set_cons_succ]
    refine wpAnyH_take (i := 4) (v := ?vp13_4) rfl (by kernel_rfl) (by kernel_rfl) (by kernel_rfl) (fun _ _ _ h => h) (Or.inl ⟨by kernel_rfl, ?yp13_4⟩) (by assumption) ?rp13_4
    case yp13_4 => (intro w hSw; (try dsimp only at hSw); go_simp; (try with_reducible rfl))
    try simp only [Act.put, List.getElem_toArray, List.getElem_cons_zero, List.getElem_cons_succ, List.setIfInBounds_toArray, List.set_cons_zero, List.set_cons_succ]
    generalize w5.drew = wd at *
    refine wpAnyH_ready (rs := [1, 5]) (by kernel_rfl) (by simp) ?_
    refine AllReadyH.cons rfl (fun K hK => ?_) (AllReadyH.cons rfl (fun K hK => ?_) AllReadyH.nil)
    ·have hce := HD.out.cells.1.2.2.1
     go_simp
     clear hce
     refine hK.out _ _ trivial (fun hHeld => ?_)
     clear hK K
     refine wpAnyH_ready (rs := [5]) (by kernel_rfl) (by simp) ?_
     refine AllReadyH.cons rfl (fun K hK => ?_) AllReadyH.nil
     go_simp
     (try simp only [hwrap])
     with_reducible refine (K0.out wd HD.out.st).mono ?_
     rintro x wc15 ⟨hm, ⟨v, xv, rfl, hq, hv⟩, r2⟩
     obtain ⟨kk, rfl, hk, hk1⟩ := exV_cells hq
     obtain ⟨Ak, ck, rfl⟩ := exsC_slice hk
     have C15 := Lib.hid (HD.out.moves hm r2)
     have Y15 := Lib.hid (HD.out.apart hk)
     have HV := Lib.hid hv
     clear hm r2 hk hq hk1 hv
     refine hK.out _ _ trivial (fun hHeld => ?_)
     clear hK K
     refine wpAnyH_ready (rs := [6]) (by kernel_rfl) (by simp) ?_
     refine AllReadyH.cons rfl (fun K hK => ?_) AllReadyH.nil
     go_simp
     have mz := Moves.of_below (R := R) (below_alloc wc15 (exO v (.slice Ak v.kids.length ck))) (Nat.le_refl _)
     have C16 := Lib.hid (C15.out.moves mz (C15.out.st.below (below_alloc wc15 (exO v (.slice Ak v.kids.length ck))) (Nat.le_refl _)))
     have Z16 := Lib.hid (heap_alloc_new wc15 (exO v (.slice Ak v.kids.length ck)))
     have Y16 := Lib.hid (Y15.out.moves mz hRlo)
     clear mz
     generalize wc15.alloc (exO v (.slice Ak v.kids.length ck)) = wb16 at *
     refine hK.out _ _ trivial (fun hHeld => ?_)
     clear hK K
     obtain ⟨ks, hks, hown, hkid⟩ := C16.out.own
     have HO := Lib.hid hown
     have HKd := Lib.hid hkid
     clear hown hkid
     have HNw : Hid (∀ (j : Nat) (u : Value), (exC v (.slice Ak v.kids.length ck))[j]? = some u → wb16.cell? ((Addr.mk (wc15.heap.size) 0 none).add j) = some u) := fun j u hu => by
      rw [Addr.add_mid]
      exact range_of (cs := (exC v (.slice Ak v.kids.length ck))) Z16.out j u hu
     refine wpAnyH_ready (rs := [7]) (by kernel_rfl) (by simp) ?_
     refine AllReadyH.cons rfl (fun K hK => ?_) AllReadyH.nil
     rw [if_pos (by rfl)]
     refine wp_append_one _ (.tmp 78) (.tmp 83) 143 rfl ((w.heap.size + 2)) 202 i0 _ 5 64 Tryz.underlying143 hi hz0 hz1 hz2 rfl (by omega) _ _ _ rfl HO.out ⟨wc15.heap.size, 0, none⟩ 1 (exC v (.slice Ak v.kids.length ck)) rfl rfl HNw.out one5 (by (try simp only [List.length_cons, List.length_nil]); omega) (by simp; unfold maxLen; omega) C16.out.lo ?_
     intro v' w' ho hg hvv
     obtain ⟨A', c', hA'⟩ := own_shape ho
     subst hA'
     have M17 := Lib.hid (C16.out.more hks HKd.out HO.out ho hg hvv Y16.out).1
     have hcL := C16.out.va.of (C16.out.more hks HKd.out HO.out ho hg hvv Y16.out).2
     have hce := (hcL.cell 2 _ rfl).1
     have hcf := (hcL.cell 2 _ rfl).2
     clear ho hg hvv HO HKd HNw hcL
     refine hK.out _ _ trivial (fun hHeld => ?_)
     clear hK K
     simp only [Act.put, List.setIfInBounds_toArray, List.set_cons_zero, List.set_cons_succ]
     refine wpAnyH_take (i := 8) (v := ?vp13_t17) rfl (by kernel_rfl) (by kernel_rfl) (by kernel_rfl) (fun _ _ _ h => h) (Or.inl ⟨by kernel_rfl, ?yp13_t17⟩) (by assumption) ?rp13_t17
     case yp13_t17 => (intro w hSw; (try dsimp only at hSw); go_simp; (try with_reducible rfl))
     try simp only [Act.put, List.getElem_toArray, List.getElem_cons_zero, List.getElem_cons_succ, List.setIfInBounds_toArray, List.set_cons_zero, List.set_cons_succ]
     refine wpAnyH_ready (rs := [9]) (by kernel_rfl) (by simp) ?_
     refine AllReadyH.cons rfl (fun K hK => ?_) AllReadyH.nil
     go_simp
     refine hK.out _ _ trivial (fun hHeld => ?_)
     clear hK K hce hcf
     refine wpAnyH_done (by kernel_rfl) ?_ _
     go_wp2
     go_meet
     exact ⟨v, A', c', M17, HV⟩
    ·go_simp
     (try simp only [hwrap])
     with_reducible refine (K0.out wd HD.out.st).mono ?_
     rintro x wc18 ⟨hm, ⟨v, xv, rfl, hq, hv⟩, r2⟩
     obtain ⟨kk, rfl, hk, hk1⟩ := exV_cells hq
     obtain ⟨Ak, ck, rfl⟩ := exsC_slice hk
     have C18 := Lib.hid (HD.out.moves hm r2)
     have Y18 := Lib.hid (HD.out.apart hk)
     have HV := Lib.hid hv
     clear hm r2 hk hq hk1 hv
     refine hK.out _ _ trivial (fun hHeld => ?_)
     clear hK K
     refine wpAnyH_ready (rs := [1, 6]) (by kernel_rfl) (by simp) ?_
     refine AllReadyH.cons rfl (fun K hK => ?_) (AllReadyH.cons rfl (fun K hK => ?_) AllReadyH.nil)
     ·have hce := C18.out.cells.1.2.2.1
      go_simp
      clear hce
      refine hK.out _ _ trivial (fun hHeld => ?_)
      clear hK K
      refine wpAnyH_ready (rs := [6]) (by kernel_rfl) (by simp) ?_
      refine AllReadyH.cons rfl (fun K hK => ?_) AllReadyH.nil
      go_simp
      have mz := Moves.of_below (R := R) (below_alloc wc18 (exO v (.slice Ak v.kids.length ck))) (Nat.le_refl _)
      have C20 := Lib.hid (C18.out.moves mz (C18.out.st.below (below_alloc wc18 (exO v (.slice Ak v.kids.length ck))) (Nat.le_refl _)))
      have Z20 := Lib.hid (heap_alloc_new wc18 (exO v (.slice Ak v.kids.length ck)))
      have Y20 := Lib.hid (Y18.out.moves mz hRlo)
      clear mz
      generalize wc18.alloc (exO v (.slice Ak v.kids.length ck)) = wb20 at *
      refine hK.out _ _ trivial (fun hHeld => ?_)
      clear hK K
      obtain ⟨ks, hks, hown, hkid⟩ := C20.out.own
      have HO := Lib.hid hown
      have HKd := Lib.hid hkid
      clear hown hkid
      have HNw : Hid (∀ (j : Nat) (u : Value), (exC v (.slice Ak v.kids.length ck))[j]? = some u → wb20.cell? ((Addr.mk (wc18.heap.size) 0 none).add j) = some u) := fun j u hu => by
       rw [Addr.add_mid]
       exact range_of (cs := (exC v (.slice Ak v.kids.length ck))) Z20.out j u hu
      refine wpAnyH_ready (rs := [7]) (by kernel_rfl) (by simp) ?_
      refine AllReadyH.cons rfl (fun K hK => ?_) AllReadyH.nil
      rw [if_pos (by rfl)]
      refine wp_append_one _ (.tmp 78) (.tmp 83) 143 rfl ((w.heap.size + 2)) 202 i0 _ 5 64 Tryz.underlying143 hi hz0 hz1 hz2 rfl (by omega) _ _ _ rfl HO.out ⟨wc18.heap.size, 0, none⟩ 1 (exC v (.slice Ak v.kids.length ck)) rfl rfl HNw.out one5 (by (try simp only [List.length_cons, List.length_nil]); omega) (by simp; unfold maxLen; omega) C20.out.lo ?_
      intro v' w' ho hg hvv
      obtain ⟨A', c', hA'⟩ := own_shape ho
      subst hA'
      have M21 := Lib.hid (C20.out.more hks HKd.out HO.out ho hg hvv Y20.out).1
      have hcL := C20.out.va.of (C20.out.more hks HKd.out HO.out ho hg hvv Y20.out).2
      have hce := (hcL.cell 2 _ rfl).1
      have hcf := (hcL.cell 2 _ rfl).2
      clear ho hg hvv HO HKd HNw hcL
      refine hK.out _ _ trivial (fun hHeld => ?_)
      clear hK K
      simp only [Act.put, List.setIfInBounds_toArray, List.set_cons_zero, List.set_cons_succ]
      refine wpAnyH_take (i := 8) (v := ?vp13_t21) rfl (by kernel_rfl) (by kernel_rfl) (by kernel_rfl) (fun _ _ _ h => h) (Or.inl ⟨by kernel_rfl, ?yp13_t21⟩) (by assumption) ?rp13_t21
      case yp13_t21 => (intro w hSw; (try dsimp only at hSw); go_simp; (try with_reducible rfl))
      try simp only [Act.put, List.getElem_toArray, List.getElem_cons_zero, List.getElem_cons_succ, List.setIfInBounds_toArray, List.set_cons_zero, List.set_cons_succ]
      refine wpAnyH_ready (rs := [9]) (by kernel_rfl) (by simp) ?_
      refine AllReadyH.cons rfl (fun K hK => ?_) AllReadyH.nil
      go_simp
      refine hK.out _ _ trivial (fun hHeld => ?_)
      clear hK K hce hcf
      refine wpAnyH_done (by kernel_rfl) ?_ _
      go_wp2
      go_meet
      exact ⟨v, A', c', M21, HV⟩
     ·go_simp
      have mz := Moves.of_below (R := R) (below_alloc wc18 (exO v (.slice Ak v.kids.length ck))) (Nat.le_refl _)
      have C22 := Lib.hid (C18.out.moves mz (C18.out.st.below (below_alloc wc18 (exO v (.slice Ak v.kids.length ck))) (Nat.le_refl _)))
      have Z22 := Lib.hid (heap_alloc_new wc18 (exO v (.slice Ak v.kids.length ck)))
      have Y22 := Lib.hid (Y18.out.moves mz hRlo)
      clear mz
      generalize wc18.alloc (exO v (.slice Ak v.kids.length ck)) = wb22 at *
      refine hK.out _ _ trivial (fun hHeld => ?_)
      clear hK K
      refine wpAnyH_ready (rs := [1]) (by kernel_rfl) (by simp) ?_
      refine AllReadyH.cons rfl (fun K hK => ?_) AllReadyH.nil
      have hce := C22.out.cells.1.2.2.1
      go_simp
      clear hce
      refine hK.out _ _ trivial (fun hHeld => ?_)
      clear hK K
      obtain ⟨ks, hks, hown, hkid⟩ := C22.out.own
      have HO := Lib.hid hown
      have HKd := Lib.hid hkid
      clear hown hkid
      have HNw : Hid (∀ (j : Nat) (u : Value), (exC v (.slice Ak v.kids.length ck))[j]? = some u → wb22.cell? ((Addr.mk (wc18.heap.size) 0 none).add j) = some u) := fun j u hu => by
       rw [Addr.add_mid]
       exact range_of (cs := (exC v (.slice Ak v.kids.length ck))) Z22.out j u hu
      refine wpAnyH_ready (rs := [7]) (by kernel_rfl) (by simp) ?_
      refine AllReadyH.cons rfl (fun K hK => ?_) AllReadyH.nil
      rw [if_pos (by rfl)]
      refine wp_append_one _ (.tmp 78) (.tmp 83) 143 rfl ((w.heap.size + 2)) 202 i0 _ 5 64 Tryz.underlying143 hi hz0 hz1 hz2 rfl (by omega) _ _ _ rfl HO.out ⟨wc18.heap.size, 0, none⟩ 1 (exC v (.slice Ak v.kids.length ck)) rfl rfl HNw.out one5 (by (try simp only [List.length_cons, List.length_nil]); omega) (by simp; unfold maxLen; omega) C22.out.lo ?_
      intro v' w' ho hg hvv
      obtain ⟨A', c', hA'⟩ := own_shape ho
      subst hA'
      have M24 := Lib.hid (C22.out.more hks HKd.out HO.out ho hg hvv Y22.out).1
      have hcL := C22.out.va.of (C22.out.more hks HKd.out HO.out ho hg hvv Y22.out).2
      have hce := (hcL.cell 2 _ rfl).1
      have hcf := (hcL.cell 2 _ rfl).2
      clear ho hg hvv HO HKd HNw hcL
      refine hK.out _ _ trivial (fun hHeld => ?_)
      clear hK K
      simp only [Act.put, List.setIfInBounds_toArray, List.set_cons_zero, List.set_cons_succ]
      refine wpAnyH_take (i := 8) (v := ?vp13_t24) rfl (by kernel_rfl) (by kernel_rfl) (by kernel_rfl) (fun _ _ _ h => h) (Or.inl ⟨by kernel_rfl, ?yp13_t24⟩) (by assumption) ?rp13_t24
      case yp13_t24 => (intro w hSw; (try dsimp only at hSw); go_simp; (try with_reducible rfl))
      try simp only [Act.put, List.getElem_toArray, List.getElem_cons_zero, List.getElem_cons_succ, List.setIfInBounds_toArray, List.set_cons_zero, List.set_cons_succ]
      refine wpAnyH_ready (rs := [9]) (by kernel_rfl) (by simp) ?_
      refine AllReadyH.cons rfl (fun K hK => ?_) AllReadyH.nil
      go_simp
      refine hK.out _ _ trivial (fun hHeld => ?_)
      clear hK K hce hcf
      refine wpAnyH_done (by kernel_rfl) ?_ _
      go_wp2
      go_meet
      exact ⟨v, A', c', M24, HV⟩
   case rest =>
    obtain ⟨v, A6, c6, HC, HV⟩ := hcut
    generalize wc = w8 at *
    have HVl : Hid (∀ a r, m = .ok a r → a = .mk 2 t.text [v] [] [] P) := fun a r h => by
     obtain ⟨t', r1, x, r2, e1, e2, e3⟩ := HVa.out a r h
     rw [e3, HV.out x r2 e2, HVt.out t' r1 e1]
    have K := Lib.hid (rmust R S _ [59] ⟨#[59]⟩ w8 HC.out.st (by kernel_rfl) (by unfold Byn; decide))
    go_wp2_with fail
    (with_reducible refine K.out.mono ?_)
    clear K
    rintro x w9 ⟨rfl, h1, h2⟩
    have HZ := Lib.hid (HC.out.moves h1 h2)
    clear h1 h2
    obtain ⟨⟨l0, l1, l2, l3, l4, l5⟩, _⟩ := HZ.out.cells
    go_wp2_with (refine wpList_storeN info43s rfl (.tmp 6) (.tmp 88) rfl rfl (w.heap.size + 1) rfl [_, _, _, _, _, _] rfl rfl HZ.out.th (by simp [Value.oneCell']) ?_; intro wf g1 g2 g3 g4 g5)
    refine bodyPost_ret (ret_cell (cs := [_, _, _, _, _, _]) Tryz.results151 Tryz.underlying145 rfl info43s _ _ (w.heap.size + 1) rfl g1) rfl ?_
    exact HZ.out.done (o := 2) (b := []) (f := []) (StsC.nothing _ _) (StsC.nothing _ _) m HU.out HVl.out g3 g4 g5
end
section
open Go.RowKit
set_option linter.unusedSimpArgs false
set_option linter.unusedVariables false
abbrev kLet : List Nat := [108, 101, 116]
abbrev kIf : List Nat := [105, 102]
abbrev kFor : List Nat := [102, 111, 114]
abbrev kRet : List Nat := [114, 101, 116, 117, 114, 110]
abbrev kPut : List Nat := [112, 117, 116]
abbrev kDel : List Nat := [100, 101, 108]
abbrev kElse : List Nat := [101, 108, 115, 101]
abbrev kTo : List Nat := [116, 111]
section
variable {z : Nat} {e : Par Ex} {b : Par (List St)} {ts : List Tok}
theorem m_let (h : seesT z [kLet] ts = true) : stmtP z e b ts = (setP z e ts.tail).bind fun x r => (wantT z [59] r).bind fun _ r' => .ok (.mk 1 x.1 [x.2] [] [] (peekT z ts).place) r' := by
 have n1 : seesT z [[105, 102]] ts = false := sees_text h (by decide)
 have n2 : seesT z [[102, 111, 114]] ts = false := sees_text h (by decide)
 unfold stmtP simpleP
 rw [if_neg (by rw [n1]; decide), if_neg (by rw [n2]; decide), if_pos h]
 cases setP z e ts.tail with
 | bad c p => rfl
 | ok x r =>
  show Res.bind (Res.bind (wantT z [59] r) _) _ = Res.bind (wantT z [59] r) _
  cases wantT z [59] r <;> rfl
theorem m_ret0 (h : seesT z [kRet] ts = true) (hs : seesT z [[59]] ts.tail = true) : stmtP z e b ts = (wantT z [59] ts.tail).bind fun _ r' => .ok (.mk 5 [] [] [] [] (peekT z ts).place) r' := by
 have n1 : seesT z [[105, 102]] ts = false := sees_text h (by decide)
 have n2 : seesT z [[102, 111, 114]] ts = false := sees_text h (by decide)
 have n3 : seesT z [[108, 101, 116]] ts = false := sees_text h (by decide)
 unfold stmtP simpleP
 rw [if_neg (by rw [n1]; decide), if_neg (by rw [n2]; decide), if_neg (by rw [n3]; decide), if_pos h, if_pos hs]
 show Res.bind (Res.bind (wantT z [59] ts.tail) _) _ = Res.bind (wantT z [59] ts.tail) _
 cases wantT z [59] ts.tail <;> rfl
theorem m_ret1 (h : seesT z [kRet] ts = true) (hs : seesT z [[59]] ts.tail = false) : stmtP z e b ts = (e ts.tail).bind fun x r => (wantT z [59] r).bind fun _ r' => .ok (.mk 5 [] [x] [] [] (peekT z ts).place) r' := by
 have n1 : seesT z [[105, 102]] ts = false := sees_text h (by decide)
 have n2 : seesT z [[102, 111, 114]] ts = false := sees_text h (by decide)
 have n3 : seesT z [[108, 101, 116]] ts = false := sees_text h (by decide)
 unfold stmtP simpleP
 rw [if_neg (by rw [n1]; decide), if_neg (by rw [n2]; decide), if_neg (by rw [n3]; decide), if_pos h, if_neg (by rw [hs]; decide)]
 cases e ts.tail with
 | bad c p => rfl
 | ok x r =>
  show Res.bind (Res.bind (wantT z [59] r) _) _ = Res.bind (wantT z [59] r) _
  cases wantT z [59] r <;> rfl
theorem m_put (h : seesT z [kPut] ts = true) : stmtP z e b ts = (pairP z e ts.tail).bind fun x r => (wantT z [59] r).bind fun _ r' => .ok (.mk 6 [] x [] [] (peekT z ts).place) r' := by
 have n1 : seesT z [[105, 102]] ts = false := sees_text h (by decide)
 have n2 : seesT z [[102, 111, 114]] ts = false := sees_text h (by decide)
 have n3 : seesT z [[108, 101, 116]] ts = false := sees_text h (by decide)
 have n4 : seesT z [[114, 101, 116, 117, 114, 110]] ts = false := sees_text h (by decide)
 unfold stmtP simpleP
 rw [if_neg (by rw [n1]; decide), if_neg (by rw [n2]; decide), if_neg (by rw [n3]; decide), if_neg (by rw [n4]; decide), if_pos h]
 cases pairP z e ts.tail with
 | bad c p => rfl
 | ok x r =>
  show Res.bind (Res.bind (wantT z [59] r) _) _ = Res.bind (wantT z [59] r) _
  cases wantT z [59] r <;> rfl
theorem m_del (h : seesT z [kDel] ts = true) : stmtP z e b ts = (enclosedP z e ts.tail).bind fun x r => (wantT z [59] r).bind fun _ r' => .ok (.mk 7 [] x [] [] (peekT z ts).place) r' := by
 have n1 : seesT z [[105, 102]] ts = false := sees_text h (by decide)
 have n2 : seesT z [[102, 111, 114]] ts = false := sees_text h (by decide)
 have n3 : seesT z [[108, 101, 116]] ts = false := sees_text h (by decide)
 have n4 : seesT z [[114, 101, 116, 117, 114, 110]] ts = false := sees_text h (by decide)
 have n5 : seesT z [[112, 117, 116]] ts = false := sees_text h (by decide)
 unfold stmtP simpleP
 rw [if_neg (by rw [n1]; decide), if_neg (by rw [n2]; decide), if_neg (by rw [n3]; decide), if_neg (by rw [n4]; decide), if_neg (by rw [n5]; decide), if_pos h]
 cases enclosedP z e ts.tail with
 | bad c p => rfl
 | ok x r =>
  show Res.bind (Res.bind (wantT z [59] r) _) _ = Res.bind (wantT z [59] r) _
  cases wantT z [59] r <;> rfl
theorem m_plain {u : Unit} (n1 : seesT z [kIf] ts = false) (n2 : seesT z [kFor] ts = false) (n3 : seesT z [kLet] ts = false) (n4 : seesT z [kRet] ts = false) (n5 : seesT z [kPut] ts = false) (n6 : seesT z [kDel] ts = false) : stmtP z e b ts = plainR z (peekT z ts).place e (.ok u ts) := by
 unfold stmtP simpleP plainR
 rw [if_neg (by rw [n1]; decide), if_neg (by rw [n2]; decide), if_neg (by rw [n3]; decide), if_neg (by rw [n4]; decide), if_neg (by rw [n5]; decide), if_neg (by rw [n6]; decide)]
 show _ = if setsT ts then (setP z e ts).bind _ else (e ts).bind _
 by_cases hs : setsT ts = true
 ·rw [if_pos hs, if_pos hs]
  cases setP z e ts with
  | bad c p => rfl
  | ok x r =>
   show Res.bind (Res.bind (wantT z [59] r) _) _ = Res.bind (wantT z [59] r) _
   cases wantT z [59] r <;> rfl
 ·rw [if_neg hs, if_neg hs]
  cases e ts with
  | bad c p => rfl
  | ok x r =>
   show Res.bind (Res.bind (wantT z [59] r) _) _ = Res.bind (wantT z [59] r) _
   cases wantT z [59] r <;> rfl
theorem m_if (h : seesT z [kIf] ts = true) : stmtP z e b ts = (e ts.tail).bind fun x r => (b r).bind fun l q => if seesT z [kElse] q then (b q.tail).bind fun m q' => .ok (.mk 3 [] [x] l m (peekT z ts).place) q' else .ok (.mk 3 [] [x] l [] (peekT z ts).place) q := by
 unfold stmtP choiceP
 rw [if_pos h]
 cases e ts.tail with
 | bad c p => rfl
 | ok x r =>
  show Res.bind (Res.bind (b r) _) _ = Res.bind (b r) _
  cases b r with
  | bad c p => rfl
  | ok l q =>
   show Res.bind (if seesT z [[101, 108, 115, 101]] q then _ else _) _ = if seesT z [[101, 108, 115, 101]] q then _ else _
   by_cases he : seesT z [[101, 108, 115, 101]] q = true
   ·rw [if_pos he, if_pos he]
    cases b q.tail <;> rfl
   ·rw [if_neg he, if_neg he]
    rfl
theorem m_for (h : seesT z [kFor] ts = true) : stmtP z e b ts = (setP z e ts.tail).bind fun x r => (wantT z kTo r).bind fun _ r' => (e r').bind fun y q => (b q).bind fun l q' => .ok (.mk 4 x.1 [x.2, y] l [] (peekT z ts).place) q' := by
 have n1 : seesT z [[105, 102]] ts = false := sees_text h (by decide)
 unfold stmtP loopP
 rw [if_neg (by rw [n1]; decide), if_pos h]
 cases setP z e ts.tail with
 | bad c p => rfl
 | ok x r =>
  show Res.bind (Res.bind (wantT z [116, 111] r) _) _ = Res.bind (wantT z [116, 111] r) _
  cases wantT z [116, 111] r with
  | bad c p => rfl
  | ok u r' =>
   show Res.bind (Res.bind (e r') _) _ = Res.bind (e r') _
   cases e r' with
   | bad c p => rfl
   | ok y q =>
    show Res.bind (Res.bind (b q) _) _ = Res.bind (b q) _
    cases b q <;> rfl
end
theorem bind_val {α β : Type} {m : Res α} {f : α → Par β} {b : β} {r : List Tok} (h : m.bind f = .ok b r) : ∃ a r0, m = .ok a r0 ∧ f a r0 = .ok b r := by
 cases m with
 | bad c p => cases h
 | ok a r0 => exact ⟨a, r0, rfl, h⟩
theorem then_unit {α β γ : Type} (m : Res α) (p : Par β) (f : α → β → γ) : (m.bind fun x r => (p r).bind fun y q => .ok (f x y) q).unit = (m.unit.bind fun _ ts => p ts).unit := by
 cases m with
 | bad c p => rfl
 | ok x r =>
  show ((p r).bind _).unit = (p r).unit
  cases p r <;> rfl
theorem then_val {α β γ : Type} {m : Res α} {p : Par β} {f : α → β → γ} {c : γ} {r : List Tok} (h : (m.bind fun x r => (p r).bind fun y q => .ok (f x y) q) = .ok c r) : ∃ x r0 y, m = .ok x r0 ∧ (m.unit.bind fun _ ts => p ts) = .ok y r ∧ c = f x y := by
 obtain ⟨x, r0, h1, h2⟩ := bind_val h
 obtain ⟨y, r1, h3, h4⟩ := bind_val h2
 injection h4 with h4 h5
 subst h5
 exact ⟨x, r0, y, h1, by rw [h1]; exact h3, h4.symm⟩
theorem enc_eq (z : Nat) (e : Par Ex) (σ : Res Unit) : (σ.bind fun _ ts => enclosedP z e ts) = ((mustR z [40] σ).bind fun _ ts => e ts).bind fun x r => (wantT z [41] r).bind fun _ q => .ok [x] q := by
 cases σ with
 | bad c p => rfl
 | ok u ts =>
  show (wantT z [40] ts).bind _ = ((wantT z [40] ts).bind fun _ ts => e ts).bind _
  cases wantT z [40] ts <;> rfl
theorem pair_eq (z : Nat) (e : Par Ex) (σ : Res Unit) : (σ.bind fun _ ts => pairP z e ts) = ((((mustR z [40] σ).bind fun _ ts => e ts).bind fun x r => (wantT z [44] r).bind fun _ q => .ok x q).bind fun x r => (e r).bind fun y q => .ok (x, y) q).bind fun x r => (wantT z [41] r).bind fun _ q => .ok [x.1, x.2] q := by
 cases σ with
 | bad c p => rfl
 | ok u ts =>
  show (wantT z [40] ts).bind _ = ((((wantT z [40] ts).bind fun _ ts => e ts).bind _).bind _).bind _
  cases wantT z [40] ts with
  | bad c p => rfl
  | ok u r =>
   show (e r).bind _ = (((e r).bind _).bind _).bind _
   cases e r with
   | bad c p => rfl
   | ok x r' =>
    show (wantT z [44] r').bind _ = (((wantT z [44] r').bind _).bind _).bind _
    cases wantT z [44] r' with
    | bad c p => rfl
    | ok u q =>
     show (e q).bind _ = ((e q).bind _).bind _
     cases e q <;> rfl
end
section
open Go.RowKit
set_option maxRecDepth 100000
set_option linter.unusedSimpArgs false
set_option linter.unusedVariables false
abbrev stB (P : Nat) : Obj := .cells #[.int .i64 0, .string ⟨#[]⟩, .slice none 0 0, .slice none 0 0, .slice none 0 0, .int .i64 P] 145
set_option maxHeartbeats 1600000 in
theorem w_let (R : Nat) (S : Src) (hsm : S.all.length ≤ 4096) (d : Nat) (e : Par Ex) (b : Par (List St)) (he : ExprR R S (d + 1) e) (hd : d ≤ 32) (σ σa : Res Unit) (w : World) (ha : Rs w R S σ)  (hT : isR S.z kLet σ = true) (hσ : passR S.z kLet σ = σa) (m : Res St) (hm : ∀ P, (∀ u ts, σ = .ok u ts → P = (peekT S.z ts).place) → m = (σa.bind fun _ ts => setP S.z e ts).bind fun x r => (wantT S.z [59] r).bind fun _ r' => .ok (.mk 1 x.1 [x.2] [] [] P) r') :
  Calls Tryz.prog 125 #[.pointer (some ⟨R, 0, none⟩), .int .i64 d] w (RGot R S (QSt w.heap.size) w m) := by
 have HR := Lib.hid ha.lt
 have HE := Lib.hid he
 have HM0 := Lib.hid hm
 have HT := Lib.hid hT
 have HSa := Lib.hid hσ
 have h0 := open_one ha stZ
 have K := Lib.hid (rplaceR R S σ _ h0.1)
 have HA := Lib.hid h0
 obtain ⟨i0, hi, hz0, hz1, hz2⟩ := info_parts info39
 have hwrap : IntKind.i64.wrap ((d : Int) + 1) = (d : Int) + 1 := IntWalk.i64_in _ (by omega)
 clear ha he hm h0  hT hσ
 unfold stZ at HA K
 go_enter Tryz.func125, Tryz.ntmps125
 go_wp2_with fail
 generalize hw0 : w.alloc (.cells #[.int .i64 0, .string ⟨#[]⟩, .slice none 0 0, .slice none 0 0, .slice none 0 0, .int .i64 0] 145) = w0 at *
 clear hw0
 (with_reducible refine K.out.mono ?_)
 clear K
 rintro x w1 ⟨P, rfl, hP, b1⟩
 have HM := Lib.hid (HM0.out P hP)
 have HS : Hid (SvC R S w w1.heap.size w.heap.size (w1.heap.size + 1) 0 [] [] (.slice none 0 0) (.slice none 0 0) (.slice none 0 0) P σ (w1.alloc (stB P))) := by
  have hz := HA.out.2.2.2.1
  have hsz := b1.size
  have h1 := HA.out.1.below b1 (Nat.le_refl _)
  have o1 := open_one h1 (stB P)
  have h2 : SvC R S w w1.heap.size w.heap.size (w1.alloc (stB P)).heap.size 0 [] [] (.slice none 0 0) (.slice none 0 0) (.slice none 0 0) P σ (w1.alloc (stB P)) := SvC.start o1.1 (VarAt.block (cs := [.int .i64 0, .string (strN []), .slice none 0 0, .slice none 0 0, .slice none 0 0, .int .i64 P]) (T := 145) o1.2.2.1) (((Moves.of_below HA.out.2.1 (Nat.le_refl _)).below b1 (Nat.le_refl _)).below o1.2.1 (Nat.le_refl _)) (by rw [o1.2.1.block _ (by omega), b1.block _ (by omega)]; exact HA.out.2.2.1) HR.out ⟨by omega, by simp⟩ ⟨Nat.le_refl _, by simp; omega⟩ (by omega)
  rw [o1.2.2.2.1] at h2
  exact h2
 have hRlo : R < w1.heap.size + 1 := by have := HR.out; have := HA.out.2.2.2.1; have := b1.size; omega
 have HLw : Hid (w.heap.size < w1.heap.size) := by have := HA.out.2.2.2.1; have := b1.size; show _ < _; omega
 clear HA HM0 hP b1
 go_wp2_with fail
 generalize w1.alloc (.cells #[.int .i64 0, .string ⟨#[]⟩, .slice none 0 0, .slice none 0 0, .slice none 0 0, .int .i64 (P : Int)] 145) = w2 at *
 have K := Lib.hid (rtake R S σ kLet ⟨#[108, 101, 116]⟩ w2 HS.out.st (by kernel_rfl) (by unfold Byn; decide))
 rw [HT.out, HSa.out] at K
 (with_reducible refine K.out.mono ?_)
 clear K
 rintro x v1 ⟨rfl, h1, h2⟩
 have HC1 := Lib.hid (HS.out.moves h1 h2)
 clear h1 h2 HS
 obtain ⟨τ, hτ⟩ : ∃ τ, τ = (σa.bind fun _ ts => takeT S.z 1 ts) := ⟨_, rfl⟩
 obtain ⟨σ2, hσ2⟩ : ∃ σ2, σ2 = mustR S.z [61] τ.unit := ⟨_, rfl⟩
 obtain ⟨σ3, hσ3⟩ : ∃ σ3, σ3 = (σ2.bind fun _ ts => e ts).unit := ⟨_, rfl⟩
 obtain ⟨σ4, hσ4⟩ : ∃ σ4, σ4 = mustR S.z [59] σ3 := ⟨_, rfl⟩
 have HU : Hid (m.unit = σ4) := by show _ = _; rw [HM.out, hσ4, hσ3, hσ2, hτ]; exact (last_unit _ _ _ _).trans (by rw [set_unit])
 have HVa : Hid (∀ a r, m = .ok a r → ∃ t r1 x r2, τ = .ok t r1 ∧ (σ2.bind fun _ ts => e ts) = .ok x r2 ∧ a = .mk 1 t.text [x] [] [] P) := fun a r h => by
  rw [HM.out] at h
  obtain ⟨x, r0, h1, h2⟩ := last_val h
  obtain ⟨t, r1, r2, h3, h4, h5⟩ := set_val h1
  exact ⟨t, r1, x.2, r2, by rw [hτ]; exact h3, by rw [hσ2, hτ]; exact h4, by rw [h2, h5]⟩
 have HT1 := Lib.hid hτ
 have HT2 := Lib.hid hσ2
 have HT3 := Lib.hid hσ3
 have HT4 := Lib.hid hσ4
 clear hτ hσ2 hσ3 hσ4 HM
 have f0 := HC1.out.cells
 have c0 := f0.1.1
 have b0 := f0.2.1
 clear f0
 have HC2 := Lib.hid (HC1.out.set0 1)
 go_wp2_with fail
 generalize v1.setCell ⟨w1.heap.size, 0, none⟩ (.int .i64 1) = v2 at *
 clear c0 b0 HC1
 have K : Hid (Calls Tryz.prog 69 #[.pointer (some ⟨R, 0, none⟩), .int .i64 1] v2 (RGot R S QT v2 τ)) := by rw [HT1.out]; exact rkind R S σa 1 (by omega) v2 HC2.out.st
 (with_reducible refine K.out.mono ?_)
 clear K
 rintro x v3 ⟨m3, ⟨t, xv, rfl, hq, hv⟩, r3⟩
 have hq' : xv = tokV t := hq
 subst hq'
 have HC3 := Lib.hid (HC2.out.moves m3 r3)
 have HVt := Lib.hid hv
 clear m3 r3 hq hv HC2
 simp only [tokV, tokC]
 have f0 := HC3.out.cells
 have c0 := f0.1.2.1
 have b0 := f0.2.2.1
 clear f0
 have hf := fun w' => (run_field77 w' t).2
 have HD3 := Lib.hid (HC3.out.set1 t.text)
 go_wp2_with fail
 clear hf
 generalize v3.setCell ⟨w1.heap.size, 1, none⟩ (.string (strN t.text)) = u3 at *
 clear c0 b0 HC3
 have K := Lib.hid (rmust R S τ.unit [61] ⟨#[61]⟩ u3 HD3.out.st (by kernel_rfl) (by unfold Byn; decide))
 rw [← HT2.out] at K
 (with_reducible refine K.out.mono ?_)
 clear K
 rintro x v4 ⟨rfl, h1, h2⟩
 have HC4 := Lib.hid (HD3.out.moves h1 h2)
 clear h1 h2 HD3
 go_wp2_with fail
 go_upto_region 7 with fail
 have K0 : Hid (∀ w1, Rs w1 R S σ2 → Calls Tryz.prog 150 #[.pointer (some ⟨R, 0, none⟩), .int .i64 ((d : Int) + 1)] w1 (RGot R S (QE w1.heap.size) w1 (σ2.bind fun _ ts => e ts))) := fun w1 h => HE.out _ w1 h
 go_cut [] (fun wx => ∃ (v : Ex) (A' : Option Addr) (c' : Nat), Hid (SvC R S w w1.heap.size w.heap.size (w1.heap.size + 1) 1 t.text [v] (.slice A' 1 c') (.slice none 0 0) (.slice none 0 0) P (σ2.bind fun _ ts => e ts).unit wx) ∧ Hid (∀ a r, (σ2.bind fun _ ts => e ts) = .ok a r → v = a))
 case first =>
  have HD := Lib.hid (HC4.out.moves (w' := v4.drew) ⟨rfl, rfl, rfl, Nat.le_refl _, fun _ _ _ => rfl⟩ (HC4.out.st.below ((Below.refl v4.heap.size v4).drew) (Nat.le_refl _)))
  refine wp_region_held_drew (S := fun _ => True) (by kernel_rfl) trivial (fun hHeld => ?_)
  refine wpAnyH_take (i := 0) (v := ?vp1_0) rfl (by kernel_rfl) (by kernel_rfl) (by kernel_rfl) (fun _ _ _ h => h) (Or.inl ⟨by kernel_rfl, ?yp1_0⟩) (by assumption) ?rp1_0
  case yp1_0 => (intro w hSw; (try dsimp only at hSw); go_simp; (try with_reducible rfl))
  try simp only [Act.put, List.getElem_toArray, List.getElem_cons_zero, List.getElem_cons_succ, List.setIfInBounds_toArray, List.set_cons_zero, List.set_cons_succ]
  refine wpAnyH_take (i := 2) (v := ?vp1_2) rfl (by kernel_rfl) (by kernel_rfl) (by kernel_rfl) (fun _ _ _ h => h) (Or.inl ⟨by kernel_rfl, ?yp1_2⟩) (by assumption) ?rp1_2
  case yp1_2 => (intro w hSw; (try dsimp only at hSw); go_simp; (try with_reducible rfl))
  try simp only [Act.put, List.getElem_toArray, List.getElem_cons_zero, List.getElem_cons_succ, List.setIfInBounds_toArray, List.set_cons_zero, List.set_cons_succ]
  refine wpAnyH_take (i := 3) (v := ?vp1_3) rfl (by kernel_rfl) (by kernel_rfl) (by kernel_rfl) (fun _ _ _ h => h) (Or.inl ⟨by kernel_rfl, ?yp1_3⟩) (by assumption) ?rp1_3
  case yp1_3 => (intro w hSw; (try dsimp only at hSw); go_simp; (try with_reducible rfl))
  try simp only [Act.put, List.getElem_toArray, List.getElem_cons_zero, List.getElem_cons_succ, List.setIfInBounds_toArray, List.set_cons_zero, List.set_cons_succ]
  refine wpAnyH_take (i := 4) (v := ?vp1_4) rfl (by kernel_rfl) (by kernel_rfl) (by kernel_rfl) (fun _ _ _ h => h) (Or.inl ⟨by kernel_rfl, ?yp1_4⟩) (by assumption) ?rp1_4
  case yp1_4 => (intro w hSw; (try dsimp only at hSw); go_simp; (try with_reducible rfl))
  try simp only [Act.put, List.getElem_toArray, List.getElem_cons_zero, List.getElem_cons_succ, List.setIfInBounds_toArray, List.set_cons_zero, List.set_cons_succ]
  generalize v4.drew = wd at *
  refine wpAnyH_ready (rs := [1, 5]) (by kernel_rfl) (by simp) ?_
  refine AllReadyH.cons rfl (fun K hK => ?_) (AllReadyH.cons rfl (fun K hK => ?_) AllReadyH.nil)
  ·have hce := HD.out.cells.1.2.2.1
   go_simp
   clear hce
   refine hK.out _ _ trivial (fun hHeld => ?_)
   clear hK K
   refine wpAnyH_ready (rs := [5]) (by kernel_rfl) (by simp) ?_
   refine AllReadyH.cons rfl (fun K hK => ?_) AllReadyH.nil
   go_simp
   (try simp only [hwrap])
   with_reducible refine (K0.out wd HD.out.st).mono ?_
   rintro x wc3 ⟨hm, ⟨v, xv, rfl, hq, hv⟩, r2⟩
   obtain ⟨kk, rfl, hk, hk1⟩ := exV_cells hq
   obtain ⟨Ak, ck, rfl⟩ := exsC_slice hk
   have C3 := Lib.hid (HD.out.moves hm r2)
   have Y3 := Lib.hid (HD.out.apart hk)
   have HV := Lib.hid hv
   clear hm r2 hk hq hk1 hv
   refine hK.out _ _ trivial (fun hHeld => ?_)
   clear hK K
   refine wpAnyH_ready (rs := [6]) (by kernel_rfl) (by simp) ?_
   refine AllReadyH.cons rfl (fun K hK => ?_) AllReadyH.nil
   go_simp
   have mz := Moves.of_below (R := R) (below_alloc wc3 (exO v (.slice Ak v.kids.length ck))) (Nat.le_refl _)
   have C4 := Lib.hid (C3.out.moves mz (C3.out.st.below (below_alloc wc3 (exO v (.slice Ak v.kids.length ck))) (Nat.le_refl _)))
   have Z4 := Lib.hid (heap_alloc_new wc3 (exO v (.slice Ak v.kids.length ck)))
   have Y4 := Lib.hid (Y3.out.moves mz hRlo)
   clear mz
   generalize wc3.alloc (exO v (.slice Ak v.kids.length ck)) = wb4 at *
   refine hK.out _ _ trivial (fun hHeld => ?_)
   clear hK K
   obtain ⟨ks, hks, hown, hkid⟩ := C4.out.own
   have HO := Lib.hid hown
   have HKd := Lib.hid hkid
   clear hown hkid
   have HNw : Hid (∀ (j : Nat) (u : Value), (exC v (.slice Ak v.kids.length ck))[j]? = some u → wb4.cell? ((Addr.mk (wc3.heap.size) 0 none).add j) = some u) := fun j u hu => by
    rw [Addr.add_mid]
    exact range_of (cs := (exC v (.slice Ak v.kids.length ck))) Z4.out j u hu
   refine wpAnyH_ready (rs := [7]) (by kernel_rfl) (by simp) ?_
   refine AllReadyH.cons rfl (fun K hK => ?_) AllReadyH.nil
   rw [if_pos (by rfl)]
   refine wp_append_one _ (.tmp 24) (.tmp 29) 143 rfl ((w1.heap.size + 1)) 202 i0 _ 5 64 Tryz.underlying143 hi hz0 hz1 hz2 rfl (by omega) _ _ _ rfl HO.out ⟨wc3.heap.size, 0, none⟩ 1 (exC v (.slice Ak v.kids.length ck)) rfl rfl HNw.out one5 (by (try simp only [List.length_cons, List.length_nil]); omega) (by simp; unfold maxLen; omega) C4.out.lo ?_
   intro v' w' ho hg hvv
   obtain ⟨A', c', hA'⟩ := own_shape ho
   subst hA'
   have M5 := Lib.hid (C4.out.more hks HKd.out HO.out ho hg hvv Y4.out).1
   have hcL := C4.out.va.of (C4.out.more hks HKd.out HO.out ho hg hvv Y4.out).2
   have hce := (hcL.cell 2 _ rfl).1
   have hcf := (hcL.cell 2 _ rfl).2
   clear ho hg hvv HO HKd HNw hcL
   refine hK.out _ _ trivial (fun hHeld => ?_)
   clear hK K
   simp only [Act.put, List.setIfInBounds_toArray, List.set_cons_zero, List.set_cons_succ]
   refine wpAnyH_take (i := 8) (v := ?vp1_t5) rfl (by kernel_rfl) (by kernel_rfl) (by kernel_rfl) (fun _ _ _ h => h) (Or.inl ⟨by kernel_rfl, ?yp1_t5⟩) (by assumption) ?rp1_t5
   case yp1_t5 => (intro w hSw; (try dsimp only at hSw); go_simp; (try with_reducible rfl))
   try simp only [Act.put, List.getElem_toArray, List.getElem_cons_zero, List.getElem_cons_succ, List.setIfInBounds_toArray, List.set_cons_zero, List.set_cons_succ]
   refine wpAnyH_ready (rs := [9]) (by kernel_rfl) (by simp) ?_
   refine AllReadyH.cons rfl (fun K hK => ?_) AllReadyH.nil
   go_simp
   refine hK.out _ _ trivial (fun hHeld => ?_)
   clear hK K hce hcf
   refine wpAnyH_done (by kernel_rfl) ?_ _
   go_wp2
   go_meet
   exact ⟨v, A', c', M5, HV⟩
  ·go_simp
   (try simp only [hwrap])
   with_reducible refine (K0.out wd HD.out.st).mono ?_
   rintro x wc6 ⟨hm, ⟨v, xv, rfl, hq, hv⟩, r2⟩
   obtain ⟨kk, rfl, hk, hk1⟩ := exV_cells hq
   obtain ⟨Ak, ck, rfl⟩ := exsC_slice hk
   have C6 := Lib.hid (HD.out.moves hm r2)
   have Y6 := Lib.hid (HD.out.apart hk)
   have HV := Lib.hid hv
   clear hm r2 hk hq hk1 hv
   refine hK.out _ _ trivial (fun hHeld => ?_)
   clear hK K
   refine wpAnyH_ready (rs := [1, 6]) (by kernel_rfl) (by simp) ?_
   refine AllReadyH.cons rfl (fun K hK => ?_) (AllReadyH.cons rfl (fun K hK => ?_) AllReadyH.nil)
   ·have hce := C6.out.cells.1.2.2.1
    go_simp
    clear hce
    refine hK.out _ _ trivial (fun hHeld => ?_)
    clear hK K
    refine wpAnyH_ready (rs := [6]) (by kernel_rfl) (by simp) ?_
    refine AllReadyH.cons rfl (fun K hK => ?_) AllReadyH.nil
    go_simp
    have mz := Moves.of_below (R := R) (below_alloc wc6 (exO v (.slice Ak v.kids.length ck))) (Nat.le_refl _)
    have C8 := Lib.hid (C6.out.moves mz (C6.out.st.below (below_alloc wc6 (exO v (.slice Ak v.kids.length ck))) (Nat.le_refl _)))
    have Z8 := Lib.hid (heap_alloc_new wc6 (exO v (.slice Ak v.kids.length ck)))
    have Y8 := Lib.hid (Y6.out.moves mz hRlo)
    clear mz
    generalize wc6.alloc (exO v (.slice Ak v.kids.length ck)) = wb8 at *
    refine hK.out _ _ trivial (fun hHeld => ?_)
    clear hK K
    obtain ⟨ks, hks, hown, hkid⟩ := C8.out.own
    have HO := Lib.hid hown
    have HKd := Lib.hid hkid
    clear hown hkid
    have HNw : Hid (∀ (j : Nat) (u : Value), (exC v (.slice Ak v.kids.length ck))[j]? = some u → wb8.cell? ((Addr.mk (wc6.heap.size) 0 none).add j) = some u) := fun j u hu => by
     rw [Addr.add_mid]
     exact range_of (cs := (exC v (.slice Ak v.kids.length ck))) Z8.out j u hu
    refine wpAnyH_ready (rs := [7]) (by kernel_rfl) (by simp) ?_
    refine AllReadyH.cons rfl (fun K hK => ?_) AllReadyH.nil
    rw [if_pos (by rfl)]
    refine wp_append_one _ (.tmp 24) (.tmp 29) 143 rfl ((w1.heap.size + 1)) 202 i0 _ 5 64 Tryz.underlying143 hi hz0 hz1 hz2 rfl (by omega) _ _ _ rfl HO.out ⟨wc6.heap.size, 0, none⟩ 1 (exC v (.slice Ak v.kids.length ck)) rfl rfl HNw.out one5 (by (try simp only [List.length_cons, List.length_nil]); omega) (by simp; unfold maxLen; omega) C8.out.lo ?_
    intro v' w' ho hg hvv
    obtain ⟨A', c', hA'⟩ := own_shape ho
    subst hA'
    have M9 := Lib.hid (C8.out.more hks HKd.out HO.out ho hg hvv Y8.out).1
    have hcL := C8.out.va.of (C8.out.more hks HKd.out HO.out ho hg hvv Y8.out).2
    have hce := (hcL.cell 2 _ rfl).1
    have hcf := (hcL.cell 2 _ rfl).2
    clear ho hg hvv HO HKd HNw hcL
    refine hK.out _ _ trivial (fun hHeld => ?_)
    clear hK K
    simp only [Act.put, List.setIfInBounds_toArray, List.set_cons_zero, List.set_cons_succ]
    refine wpAnyH_take (i := 8) (v := ?vp1_t9) rfl (by kernel_rfl) (by kernel_rfl) (by kernel_rfl) (fun _ _ _ h => h) (Or.inl ⟨by kernel_rfl, ?yp1_t9⟩) (by assumption) ?rp1_t9
    case yp1_t9 => (intro w hSw; (try dsimp only at hSw); go_simp; (try with_reducible rfl))
    try simp only [Act.put, List.getElem_toArray, List.getElem_cons_zero, List.getElem_cons_succ, List.setIfInBounds_toArray, List.set_cons_zero, List.set_cons_succ]
    refine wpAnyH_ready (rs := [9]) (by kernel_rfl) (by simp) ?_
    refine AllReadyH.cons rfl (fun K hK => ?_) AllReadyH.nil
    go_simp
    refine hK.out _ _ trivial (fun hHeld => ?_)
    clear hK K hce hcf
    refine wpAnyH_done (by kernel_rfl) ?_ _
    go_wp2
    go_meet
    exact ⟨v, A', c', M9, HV⟩
   ·go_simp
    have mz := Moves.of_below (R := R) (below_alloc wc6 (exO v (.slice Ak v.kids.length ck))) (Nat.le_refl _)
    have C10 := Lib.hid (C6.out.moves mz (C6.out.st.below (below_alloc wc6 (exO v (.slice Ak v.kids.length ck))) (Nat.le_refl _)))
    have Z10 := Lib.hid (heap_alloc_new wc6 (exO v (.slice Ak v.kids.length ck)))
    have Y10 := Lib.hid (Y6.out.moves mz hRlo)
    clear mz
    generalize wc6.alloc (exO v (.slice Ak v.kids.length ck)) = wb10 at *
    refine hK.out _ _ trivial (fun hHeld => ?_)
    clear hK K
    refine wpAnyH_ready (rs := [1]) (by kernel_rfl) (by simp) ?_
    refine AllReadyH.cons rfl (fun K hK => ?_) AllReadyH.nil
    have hce := C10.out.cells.1.2.2.1
    go_simp
    clear hce
    refine hK.out _ _ trivial (fun hHeld => ?_)
    clear hK K
    obtain ⟨ks, hks, hown, hkid⟩ := C10.out.own
    have HO := Lib.hid hown
    have HKd := Lib.hid hkid
    clear hown hkid
    have HNw : Hid (∀ (j : Nat) (u : Value), (exC v (.slice Ak v.kids.length ck))[j]? = some u → wb10.cell? ((Addr.mk (wc6.heap.size) 0 none).add j) = some u) := fun j u hu => by
     rw [Addr.add_mid]
     exact range_of (cs := (exC v (.slice Ak v.kids.length ck))) Z10.out j u hu
    refine wpAnyH_ready (rs := [7]) (by kernel_rfl) (by simp) ?_
    refine AllReadyH.cons rfl (fun K hK => ?_) AllReadyH.nil
    rw [if_pos (by rfl)]
    refine wp_append_one _ (.tmp 24) (.tmp 29) 143 rfl ((w1.heap.size + 1)) 202 i0 _ 5 64 Tryz.underlying143 hi hz0 hz1 hz2 rfl (by omega) _ _ _ rfl HO.out ⟨wc6.heap.size, 0, none⟩ 1 (exC v (.slice Ak v.kids.length ck)) rfl rfl HNw.out one5 (by (try simp only [List.length_cons, List.length_nil]); omega) (by simp; unfold maxLen; omega) C10.out.lo ?_
    intro v' w' ho hg hvv
    obtain ⟨A', c', hA'⟩ := own_shape ho
    subst hA'
    have M12 := Lib.hid (C10.out.more hks HKd.out HO.out ho hg hvv Y10.out).1
    have hcL := C10.out.va.of (C10.out.more hks HKd.out HO.out ho hg hvv Y10.out).2
    have hce := (hcL.cell 2 _ rfl).1
    have hcf := (hcL.cell 2 _ rfl).2
    clear ho hg hvv HO HKd HNw hcL
    refine hK.out _ _ trivial (fun hHeld => ?_)
    clear hK K
    simp only [Act.put, List.setIfInBounds_toArray, List.set_cons_zero, List.set_cons_succ]
    refine wpAnyH_take (i := 8) (v := ?vp1_t12) rfl (by kernel_rfl) (by kernel_rfl) (by kernel_rfl) (fun _ _ _ h => h) (Or.inl ⟨by kernel_rfl, ?yp1_t12⟩) (by assumption) ?rp1_t12
    case yp1_t12 => (intro w hSw; (try dsimp only at hSw); go_simp; (try with_reducible rfl))
    try simp only [Act.put, List.getElem_toArray, List.getElem_cons_zero, List.getElem_cons_succ, List.setIfInBounds_toArray, List.set_cons_zero, List.set_cons_succ]
    refine wpAnyH_ready (rs := [9]) (by kernel_rfl) (by simp) ?_
    refine AllReadyH.cons rfl (fun K hK => ?_) AllReadyH.nil
    go_simp
    refine hK.out _ _ trivial (fun hHeld => ?_)
    clear hK K hce hcf
    refine wpAnyH_done (by kernel_rfl) ?_ _
    go_wp2
    go_meet
    exact ⟨v, A', c', M12, HV⟩
 case rest =>
  obtain ⟨x1, A5, c5, HC5, HVx1⟩ := hcut
  generalize wc = v5 at *
  rw [← HT3.out] at HC5
  clear HC4
  go_wp2_with fail
  have K := Lib.hid (rmust R S σ3 [59] ⟨#[59]⟩ v5 HC5.out.st (by kernel_rfl) (by unfold Byn; decide))
  rw [← HT4.out] at K
  (with_reducible refine K.out.mono ?_)
  clear K
  rintro x v6 ⟨rfl, h1, h2⟩
  have HC6 := Lib.hid (HC5.out.moves h1 h2)
  clear h1 h2 HC5
  have HVl : Hid (∀ a r, m = .ok a r → a = .mk 1 t.text [x1] [] [] P) := fun a r h => by
   obtain ⟨t', r1, x, r2, e1, e2, e3⟩ := HVa.out a r h
   rw [e3, HVx1.out x r2 e2, HVt.out t' r1 e1]
  obtain ⟨⟨q0, q1, q2, q3, q4, q5⟩, _⟩ := HC6.out.cells
  go_wp2_with (refine wpList_storeN info43s rfl (.tmp 4) (.tmp 161) rfl rfl w.heap.size rfl [_, _, _, _, _, _] rfl rfl HC6.out.th (by simp [Value.oneCell']) ?_; intro wf g1 g2 g3 g4 g5)
  refine bodyPost_ret (ret_cell (cs := [_, _, _, _, _, _]) Tryz.results125 Tryz.underlying145 rfl info43s _ _ w.heap.size rfl g1) rfl ?_
  exact HC6.out.done (o := 1) (b := []) (f := []) (StsC.nothing _ _) (StsC.nothing _ _) m HU.out HVl.out g3 g4 g5
end
end Go.Proofs.YtcilgkdnjgmogaaGreatDoor
