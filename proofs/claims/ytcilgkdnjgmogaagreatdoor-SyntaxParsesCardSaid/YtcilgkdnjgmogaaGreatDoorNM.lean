/- The document's own reading of a program. -/
import Derived.Test.YtcilgkdnjgmogaaGreatDoorNL
import Derived.Test.YtcilgkdnjgmogaaGreatDoorMC
namespace Go.Proofs.YtcilgkdnjgmogaaGreatDoor
section
open Go.RowKit
set_option maxRecDepth 100000
set_option linter.unusedSimpArgs false
set_option linter.unusedVariables false
def callP (z : Nat) (e : Par Ex) (s : List Nat) (q : Nat) : Par Ex := fun r => if seesT z [[40]] r then (listP z e r).bind fun l r' => .ok (.mk 5 0 s l q) r' else .ok (.mk 4 0 s [] q) r
def NamedR (R : Nat) (S : Src) (d : Nat) (e : Par Ex) : Prop := ∀ (s : List Nat) (q : Nat) (u : Unit) (ts : List Tok) (w : World), Byn s → Rs w R S (.ok u ts) →
 Calls Tryz.prog 288 #[.pointer (some ⟨R, 0, none⟩), .string (strN s), .int .i64 q, .int .i64 d] w (RGot R S (QE w.heap.size) w (callP S.z e s q ts))
def PrS (R : Nat) (S : Src) (i g : Nat) (t : Tok) (w : World) : Prop := w.cell? ⟨R, 0, none⟩ = some (.slice (some ⟨g, 0, none⟩) S.all.length S.c) ∧ w.cell? ⟨R, 1, none⟩ = some (.int .i64 i) ∧ w.rangeAt g (i * 4) [.int .i64 t.kind, .string (strN t.text), .int .i64 t.num, .int .i64 t.place]
theorem PrS.of {R : Nat} {S : Src} {i g : Nat} {t : Tok} {w w' : World} (h : PrS R S i g t w) (h1 : w'.heap[R]? = w.heap[R]?) (h2 : w'.heap[g]? = w.heap[g]?) : PrS R S i g t w' :=
 ⟨(World.cell?_of_block (a := ⟨R, 0, none⟩) h1).trans h.1, (World.cell?_of_block (a := ⟨R, 1, none⟩) h1).trans h.2.1, fun j v hv => by rw [World.cell?_of_block (a := ⟨g, i * 4 + j, none⟩) h2]; exact h.2.2 j v hv⟩
theorem enclosed_inner (z : Nat) (e : Par Ex) (ts : List Tok) : ((enclosedP z e ts).bind fun l r => .ok (l.headD (.mk 0 0 [] [] 0)) r) = innerP z e ts := by
 unfold enclosedP innerP
 cases wantT z [40] ts with
 | bad c p => rfl
 | ok u r =>
  simp only [Res.bind_ok]
  cases e r with
  | bad c p => rfl
  | ok x r' =>
   simp only [Res.bind_ok]
   cases wantT z [41] r' <;> rfl
theorem enclosed_word (z : Nat) (e : Par Ex) (f : List Ex → Ex) (ts : List Tok) : ((enclosedP z e ts).bind fun l r => .ok (f l) r) = (innerP z e ts).bind fun x r => .ok (f [x]) r := by
 unfold enclosedP innerP
 cases wantT z [40] ts with
 | bad c p => rfl
 | ok u r =>
  simp only [Res.bind_ok]
  cases e r with
  | bad c p => rfl
  | ok x r' =>
   simp only [Res.bind_ok]
   cases wantT z [41] r' <;> rfl
theorem sees_text {z : Nat} {s s' : List Nat} {ts : List Tok} (h : seesT z [s] ts = true) (hn : s ≠ s') : seesT z [s'] ts = false := by
 unfold seesT isOne at *
 simp at h
 simp [h.2]
 intro _ e
 exact hn e
theorem sees_kind {z k : Nat} {s : List Nat} {ts : List Tok} (h : seesT z [s] ts = true) (hk : k ≠ 4) : (peekT z ts).kind ≠ k := by
 have := seesT_kind h
 omega
def wdN : List (List Nat) := [[103, 101, 116], [104, 97, 115], [108, 101, 110]]
theorem wdN_byn : ∀ s ∈ wdN, Byn s := by unfold wdN Byn; decide
theorem prim_true {z : Nat} {e : Par Ex} {ts : List Tok} (h : seesT z [[116, 114, 117, 101]] ts = true) : primaryP z e ts = .ok (.mk 2 1 [] [] (peekT z ts).place) ts.tail := by
 unfold primaryP wordedP
 rw [if_neg (sees_kind h (by decide)), if_neg (sees_kind h (by decide)), if_neg (sees_kind h (by decide)), if_neg (by simp [sees_text h]), if_pos h]
 rfl
theorem prim_false {z : Nat} {e : Par Ex} {ts : List Tok} (h : seesT z [[102, 97, 108, 115, 101]] ts = true) : primaryP z e ts = .ok (.mk 2 0 [] [] (peekT z ts).place) ts.tail := by
 unfold primaryP wordedP
 rw [if_neg (sees_kind h (by decide)), if_neg (sees_kind h (by decide)), if_neg (sees_kind h (by decide)), if_neg (by simp [sees_text h]), if_neg (by simp [sees_text h]), if_pos h]
 rfl
theorem prim_inner {z : Nat} {e : Par Ex} {ts : List Tok} (h : seesT z [[40]] ts = true) : primaryP z e ts = innerP z e ts := by
 unfold primaryP
 rw [if_neg (sees_kind h (by decide)), if_neg (sees_kind h (by decide)), if_neg (sees_kind h (by decide)), if_pos h, enclosed_inner]
theorem bind_at {m : Res (List Ex)} {f : List Ex → Ex} {q : Nat} : ((m.bind fun l r => .ok (f l) r).bind fun x r => .ok (x.at q) r) = m.bind fun l r => .ok ((f l).at q) r := by cases m <;> rfl
theorem prim_word {z k : Nat} {e : Par Ex} {s : List Nat} {ts : List Tok} (hk : wdN[k]? = some s) (h : seesT z [s] ts = true) : primaryP z e ts = (innerP z e ts.tail).bind fun x r => .ok (.mk (8 + k) 0 [] [x] (peekT z ts).place) r := by
 unfold primaryP wordedP
 rw [if_neg (sees_kind h (by decide)), if_neg (sees_kind h (by decide)), if_neg (sees_kind h (by decide))]
 rcases k with _ | _ | _ | k
 ·simp [wdN] at hk
  subst hk
  rw [if_neg (by simp [sees_text h]), if_neg (by simp [sees_text h]), if_neg (by simp [sees_text h]), if_pos h, bind_at, enclosed_word]
  rfl
 ·simp [wdN] at hk
  subst hk
  rw [if_neg (by simp [sees_text h]), if_neg (by simp [sees_text h]), if_neg (by simp [sees_text h]), if_neg (by simp [sees_text h]), if_pos h, bind_at, enclosed_word]
  rfl
 ·simp [wdN] at hk
  subst hk
  rw [if_neg (by simp [sees_text h]), if_neg (by simp [sees_text h]), if_neg (by simp [sees_text h]), if_neg (by simp [sees_text h]), if_neg (by simp [sees_text h])]
  unfold wantT
  rw [if_pos h]
  simp only [Res.bind_ok]
  rw [bind_at, enclosed_word]
  rfl
 ·simp [wdN] at hk
theorem prim_none {z : Nat} {e : Par Ex} {u : Unit} {ts : List Tok} (h2 : (peekT z ts).kind ≠ 2) (h3 : (peekT z ts).kind ≠ 3) (h1 : (peekT z ts).kind ≠ 1) (ht : seesT z [[116, 114, 117, 101]] ts = false) (hf : seesT z [[102, 97, 108, 115, 101]] ts = false) (hi : seesT z [[40]] ts = false) (hw : Nots z wdN (.ok u ts) 3) : primaryP z e ts = failT z 41 ts := by
 have g0 : seesT z [[103, 101, 116]] ts = false := hw 0 _ (by omega) rfl
 have g1 : seesT z [[104, 97, 115]] ts = false := hw 1 _ (by omega) rfl
 have g2 : seesT z [[108, 101, 110]] ts = false := hw 2 _ (by omega) rfl
 unfold primaryP wordedP wantT
 rw [if_neg h2, if_neg h3, if_neg h1, if_neg (by simp [hi]), if_neg (by simp [ht]), if_neg (by simp [hf]), if_neg (by simp [g0]), if_neg (by simp [g1]), if_neg (by simp [g2])]
 rfl
theorem prim_num {z : Nat} {e : Par Ex} {ts : List Tok} (h : (peekT z ts).kind = 2) : primaryP z e ts = .ok (.mk 1 (peekT z ts).num [] [] (peekT z ts).place) ts.tail := by unfold primaryP; rw [if_pos h]
theorem prim_text {z : Nat} {e : Par Ex} {ts : List Tok} (h : (peekT z ts).kind = 3) : primaryP z e ts = .ok (.mk 3 0 (peekT z ts).text [] (peekT z ts).place) ts.tail := by unfold primaryP; rw [if_neg (by omega), if_pos h]
theorem prim_name {z : Nat} {e : Par Ex} {ts : List Tok} (h : (peekT z ts).kind = 1) : primaryP z e ts = callP z e (peekT z ts).text (peekT z ts).place ts.tail := by
 unfold primaryP
 rw [if_neg (by omega), if_neg (by omega), if_pos h]
 unfold namedP takeT
 rw [if_pos h]
 rfl
structure PrC (R : Nat) (S : Src) (w : World) (b : Nat) (t : Tok) (σ : Res Unit) (wr : World) : Prop where
 st : Rs wr R S σ
 mv : Moves R w wr
 z : wr.heap[w.heap.size]? = some zE
 lt : w.heap.size < b
 bl : b < wr.heap.size
 tk : wr.rangeAt b 0 [.int .i64 t.kind, .string (strN t.text), .int .i64 t.num, .int .i64 t.place]
theorem PrC.moves {R : Nat} {S : Src} {w : World} {b : Nat} {t : Tok} {σ σ' : Res Unit} {wr w' : World} (h : PrC R S w b t σ wr) (hR : R < w.heap.size) (hm : Moves R wr w') (hs : Rs w' R S σ') : PrC R S w b t σ' w' := by
 have h1 := h.lt
 have h2 := h.bl
 exact ⟨hs, h.mv.trans hm, by rw [hm.block' (by omega) (by omega)]; exact h.z, h1, Nat.lt_of_lt_of_le h2 hm.size, fun j v hv => by rw [World.cell?_of_block (a := ⟨b, 0 + j, none⟩) (hm.block' (k := b) h2 (by omega))]; exact h.tk j v hv⟩
theorem PrC.th {R : Nat} {S : Src} {w : World} {b : Nat} {t : Tok} {σ : Res Unit} {wr : World} (h : PrC R S w b t σ wr) : wr.there w.heap.size 0 5 := there_cells (cs := [.int .i64 0, .int .i64 0, .string ⟨#[]⟩, .slice none 0 0, .int .i64 0]) (T := 202) h.z rfl
set_option maxHeartbeats 1600000 in
theorem rprimary (R : Nat) (S : Src) (d : Nat) (e : Par Ex) (he : ExprR R S (d + 1) e) (hn : NamedR R S d e) (hd : d < 100) : ReadsR R S 259 #[.pointer (some ⟨R, 0, none⟩), .int .i64 d] (primaryP S.z e) := by
 intro σ w ha
 have HR := Lib.hid ha.lt
 have h0 := open_one ha zE
 have K := Lib.hid (rplaceR R S σ _ h0.1)
 have HE := Lib.hid he
 have HN := Lib.hid hn
 have HA := Lib.hid h0
 clear ha he hn h0
 cases σ with
 | bad c p =>
  go_enter Tryz.func259, Tryz.ntmps259
  go_wp2_with fail
  generalize w.alloc zE = w0 at *
  (with_reducible refine K.out.mono ?_)
  clear K
  rintro x w1 ⟨q, rfl, hq, b1⟩
  have h1 := HA.out.1.below b1 (Nat.le_refl _)
  have H1 := Lib.hid h1
  have HM1 : Hid (Moves R w w1 ∧ w1.heap[w.heap.size]? = some zE ∧ w.heap.size < w1.heap.size) := ⟨(Moves.of_below HA.out.2.1 (Nat.le_refl _)).below b1 (Nat.le_refl _), by rw [b1.block _ (by have := HA.out.2.2.2.1; omega)]; exact HA.out.2.2.1, by have := HA.out.2.2.2.1; have := b1.size; omega⟩
  obtain ⟨hne, i, hg⟩ := h1
  obtain ⟨c0, c1, c2, c3, c4⟩ := hg.cells
  have q1 : (((c : Nat) : Int) != 0) = true := by rw [bne_iff_ne]; omega
  clear hne hg b1 hq HA
  go_wp2_with fail
  go_quiet (fail)
  have h2 := H1.out.below (below_drewN (Below.refl w1.heap.size w1) nq) (Nat.le_refl _)
  have K := Lib.hid (rfail R S _ 41 (by omega) 41 rfl _ h2)
  have HM2 : Hid (Moves R w (w1.drewN nq) ∧ (w1.drewN nq).heap[w.heap.size]? = some zE ∧ w.heap.size < (w1.drewN nq).heap.size) := ⟨HM1.out.1.below (below_drewN (Below.refl w1.heap.size w1) nq) (Nat.le_refl _), HM1.out.2.1, HM1.out.2.2⟩
  clear h2 c0 c1 c2 c3 c4 q1
  generalize w1.drewN nq = w2 at *
  go_wp2_with fail
  (with_reducible refine K.out.mono ?_)
  clear K
  rintro x w3 ⟨rfl, m3, r3⟩
  have th := Lib.hid (there_cells (cs := [.int .i64 0, .int .i64 0, .string ⟨#[]⟩, .slice none 0 0, .int .i64 0]) (T := 202) (w := w3) (g := w.heap.size) (by rw [m3.block' HM2.out.2.2 (by have := HR.out; omega)]; exact HM2.out.2.1) rfl)
  have HF : Hid (Moves R w w3 ∧ Rs w3 R S (.bad c p)) := ⟨HM2.out.1.trans m3, r3⟩
  clear m3 r3
  go_wp2_with (refine wpList_storeN info39s rfl (.tmp 4) (.tmp 31) rfl rfl w.heap.size rfl [_, _, _, _, _] rfl rfl th.out (by simp [Value.oneCell']) ?_; intro w5 g1 g2 g3 g4 g5)
  refine bodyPost_ret (ret_cell (cs := [_, _, _, _, _]) Tryz.results259 Tryz.underlying202 rfl info39s _ _ w.heap.size rfl g1) rfl ?_
  exact ⟨HF.out.1.low g3 (Nat.le_refl _), ⟨.mk 0 0 [] [] 0, _, rfl, ⟨.slice none 0 0, rfl, ExsC.nothing _ _⟩, fun a r h => (by cases h)⟩, HF.out.2.other HR.out g4⟩
 | ok u ts =>
  have HMp : Hid ((Res.bind (.ok u ts) fun _ ts => primaryP S.z e ts) = primaryP S.z e ts) := rfl
  generalize (Res.bind (.ok u ts) fun _ ts => primaryP S.z e ts) = m at *
  go_enter Tryz.func259, Tryz.ntmps259
  go_wp2_with fail
  generalize w.alloc zE = w0 at *
  (with_reducible refine K.out.mono ?_)
  clear K
  rintro x w1 ⟨q, rfl, hq, b1⟩
  have h1 := HA.out.1.below b1 (Nat.le_refl _)
  have H1 := Lib.hid h1
  have HM1 : Hid (Moves R w w1 ∧ w1.heap[w.heap.size]? = some zE ∧ w.heap.size < w1.heap.size) := ⟨(Moves.of_below HA.out.2.1 (Nat.le_refl _)).below b1 (Nat.le_refl _), by rw [b1.block _ (by have := HA.out.2.2.2.1; omega)]; exact HA.out.2.2.1, by have := HA.out.2.2.2.1; have := b1.size; omega⟩
  have HQ := Lib.hid (hq u ts rfl)
  obtain ⟨i, rfl, hg⟩ := h1
  obtain ⟨c0, c1, c2, c3, c4⟩ := hg.cells
  obtain ⟨m1, m2⟩ := hg.len
  unfold Src.V at c0
  have hle := hg.2.1
  rw [show ((0 : Nat) : Int) = 0 from rfl] at c2
  by_cases hi : i < S.all.length
  ·obtain ⟨g, t, hgg, _, ⟨k0, k1, k2, k3⟩, hyt, hdr⟩ := hg.tok hi
   have HD := Lib.hid hdr
   have HY := Lib.hid hyt
   rw [hgg] at c0
   simp only [Option.map_some] at c0
   have HG : Hid (g < R) := (hg.1.2.2.2.2 g hgg).1
   clear hg hdr hyt b1 hq HA hgg
   go_wp2_with fail
   go_quiet (fail)
   go_wp2_with fail
   have hgR : g < R := HG.out
   have hb1 := Lib.hid (below_drewN (Below.refl w1.heap.size w1) nq)
   have HP2 : Hid (PrS R S i g t (w1.drewN nq)) := ⟨c0, c1, fun j v hv => by
    rcases j with _ | _ | _ | _ | j
    ·simp at hv; subst hv; exact k0
    ·simp at hv; subst hv; exact k1
    ·simp at hv; subst hv; exact k2
    ·simp at hv; subst hv; exact k3
    ·simp at hv⟩
   have H2 : Hid (Rs (w1.drewN nq) R S (.ok u (S.all.drop i)) ∧ Moves R w (w1.drewN nq) ∧ (w1.drewN nq).heap[w.heap.size]? = some zE ∧ w.heap.size < (w1.drewN nq).heap.size) := ⟨H1.out.below hb1.out (Nat.le_refl _), HM1.out.1.below hb1.out (Nat.le_refl _), HM1.out.2.1, HM1.out.2.2⟩
   clear c0 c1 c2 c3 c4 k0 k1 k2 k3
   generalize w1.drewN nq = w2 at *
   have HSd : Hid (∀ w', PrS R S i g t w' → w'.cell? ⟨R, 0, none⟩ = some (.slice (some ⟨g, 0, none⟩) S.all.length S.c) ∧ w'.cell? ⟨R, 1, none⟩ = some (.int .i64 i)) := fun w' h => ⟨h.1, h.2.1⟩
   refine wp_region_held_drew (S := PrS R S i g t) (by kernel_rfl) (HP2.out.of rfl rfl) (fun hHeld => ?_)
   refine wpAnyH_take (i := 0) (v := ?v0) rfl (by kernel_rfl) (by kernel_rfl) (by kernel_rfl) (fun _ _ _ h => h) (Or.inl ⟨by kernel_rfl, ?y0⟩) (by assumption) ?r0
   case y0 => (intro w hSw; (try dsimp only at hSw); go_simp; (try rw [if_pos (by omega)]); (try with_reducible rfl))
   try simp only [Act.put, List.getElem_toArray, List.getElem_cons_zero, List.getElem_cons_succ, List.setIfInBounds_toArray, List.set_cons_zero, List.set_cons_succ]
   refine wpAnyH_take (i := 1) (v := ?v1) rfl (by kernel_rfl) (by kernel_rfl) (by kernel_rfl) (fun _ _ _ h => h) (Or.inl ⟨by kernel_rfl, ?y1⟩) (by assumption) ?r1
   case y1 => (intro w hSw; (try dsimp only at hSw); go_simp; (try rw [if_pos (by omega)]); (try with_reducible rfl))
   try simp only [Act.put, List.getElem_toArray, List.getElem_cons_zero, List.getElem_cons_succ, List.setIfInBounds_toArray, List.set_cons_zero, List.set_cons_succ]
   refine wpAnyH_take (i := 2) (v := ?v2) rfl (by kernel_rfl) (by kernel_rfl) (by kernel_rfl) (fun _ _ _ h => h) (Or.inl ⟨by kernel_rfl, ?y2⟩) (by assumption) ?r2
   case y2 => (intro w hSw; (try dsimp only at hSw); go_simp; (try rw [if_pos (by omega)]); (try with_reducible rfl))
   try simp only [Act.put, List.getElem_toArray, List.getElem_cons_zero, List.getElem_cons_succ, List.setIfInBounds_toArray, List.set_cons_zero, List.set_cons_succ]
   refine wpAnyH_take (i := 3) (v := ?v3) rfl (by kernel_rfl) (by kernel_rfl) (by kernel_rfl) (fun _ _ _ h => h) (Or.inl ⟨by kernel_rfl, ?y3⟩) (by assumption) ?r3
   case y3 => (intro w hSw; have q1 := (HSd.out _ hSw).1; (try dsimp only at hSw); go_simp; (try rw [if_pos (by omega)]); (try with_reducible rfl))
   try simp only [Act.put, List.getElem_toArray, List.getElem_cons_zero, List.getElem_cons_succ, List.setIfInBounds_toArray, List.set_cons_zero, List.set_cons_succ]
   refine wpAnyH_take (i := 4) (v := ?v4) rfl (by kernel_rfl) (by kernel_rfl) (by kernel_rfl) (fun _ _ _ h => h) (Or.inl ⟨by kernel_rfl, ?y4⟩) (by assumption) ?r4
   case y4 => (intro w hSw; (try dsimp only at hSw); go_simp; (try rw [if_pos (by omega)]); (try with_reducible rfl))
   try simp only [Act.put, List.getElem_toArray, List.getElem_cons_zero, List.getElem_cons_succ, List.setIfInBounds_toArray, List.set_cons_zero, List.set_cons_succ]
   refine wpAnyH_take (i := 5) (v := ?v5) rfl (by kernel_rfl) (by kernel_rfl) (by kernel_rfl) (fun _ _ _ h => h) (Or.inl ⟨by kernel_rfl, ?y5⟩) (by assumption) ?r5
   case y5 => (intro w hSw; (try dsimp only at hSw); go_simp; (try rw [if_pos (by omega)]); (try with_reducible rfl))
   try simp only [Act.put, List.getElem_toArray, List.getElem_cons_zero, List.getElem_cons_succ, List.setIfInBounds_toArray, List.set_cons_zero, List.set_cons_succ]
   refine wpAnyH_take (i := 6) (v := ?v6) rfl (by kernel_rfl) (by kernel_rfl) (by kernel_rfl) (fun _ _ _ h => h) (Or.inl ⟨by kernel_rfl, ?y6⟩) (by assumption) ?r6
   case y6 => (intro w hSw; (try dsimp only at hSw); go_simp; (try rw [if_pos (by omega)]); (try with_reducible rfl))
   try simp only [Act.put, List.getElem_toArray, List.getElem_cons_zero, List.getElem_cons_succ, List.setIfInBounds_toArray, List.set_cons_zero, List.set_cons_succ]
   refine wpAnyH_take (i := 7) (v := ?v7) rfl (by kernel_rfl) (by kernel_rfl) (by kernel_rfl) (fun _ _ _ h => h) (Or.inl ⟨by kernel_rfl, ?y7⟩) (by assumption) ?r7
   case y7 => (intro w hSw; have q1 := (HSd.out _ hSw).2; (try dsimp only at hSw); go_simp; (try rw [if_pos (by omega)]); (try with_reducible rfl))
   try simp only [Act.put, List.getElem_toArray, List.getElem_cons_zero, List.getElem_cons_succ, List.setIfInBounds_toArray, List.set_cons_zero, List.set_cons_succ]
   refine wpAnyH_take (i := 8) (v := ?v8) rfl (by kernel_rfl) (by kernel_rfl) (by kernel_rfl) (fun _ _ _ h => h) (Or.inl ⟨by kernel_rfl, ?y8⟩) (by assumption) ?r8
   case y8 => (intro w hSw; (try dsimp only at hSw); go_simp; (try rw [if_pos (by omega)]); (try with_reducible rfl))
   try simp only [Act.put, List.getElem_toArray, List.getElem_cons_zero, List.getElem_cons_succ, List.setIfInBounds_toArray, List.set_cons_zero, List.set_cons_succ]
   refine wpAnyH_take (i := 9) (v := .agg #[.int .i64 t.kind, .string (strN t.text), .int .i64 t.num, .int .i64 t.place]) rfl (by kernel_rfl) (by kernel_rfl) (by kernel_rfl) (fun _ _ _ h => h) (yieldsIf_load_mid (by kernel_rfl) 134 (.tmp 40) rfl g (i * 4) rfl _ _ (fun w' h => h.2.2) Tryz.underlying134 rfl info77s) (by assumption) ?r9
   try simp only [Act.put, List.getElem_toArray, List.getElem_cons_zero, List.getElem_cons_succ, List.setIfInBounds_toArray, List.set_cons_zero, List.set_cons_succ]
   refine wpAnyH_ready (rs := [10]) (by kernel_rfl) (by simp) ?_
   refine AllReadyH.cons rfl (fun K hK => ?_) AllReadyH.nil
   go_simp
   have hbz := (below_alloc w2 (.cells #[.int .i64 0, .string ⟨#[]⟩, .int .i64 0, .int .i64 0] 134)).drew
   have hnz : (w2.alloc (.cells #[.int .i64 0, .string ⟨#[]⟩, .int .i64 0, .int .i64 0] 134)).drew.heap[w2.heap.size]? = some (.cells #[.int .i64 0, .string ⟨#[]⟩, .int .i64 0, .int .i64 0] 134 (0, 0)) := heap_alloc_new w2 _
   have hsz : (w2.alloc (.cells #[.int .i64 0, .string ⟨#[]⟩, .int .i64 0, .int .i64 0] 134)).drew.heap.size = w2.heap.size + 1 := by show (w2.alloc _).heap.size = _; simp
   have hRl := H2.out.1.lt
   have hS3 := HP2.out.of (hbz.block R hRl) (hbz.block g (by omega))
   have N3 : Hid (Rs (w2.alloc (.cells #[.int .i64 0, .string ⟨#[]⟩, .int .i64 0, .int .i64 0] 134)).drew R S (.ok u (S.all.drop i)) ∧ Moves R w (w2.alloc (.cells #[.int .i64 0, .string ⟨#[]⟩, .int .i64 0, .int .i64 0] 134)).drew ∧ (w2.alloc (.cells #[.int .i64 0, .string ⟨#[]⟩, .int .i64 0, .int .i64 0] 134)).drew.heap[w.heap.size]? = some zE) := ⟨H2.out.1.below hbz (Nat.le_refl _), H2.out.2.1.below hbz (Nat.le_refl _), by rw [hbz.block _ H2.out.2.2.2]; exact H2.out.2.2.1⟩
   have NZ := Lib.hid hnz
   have NS : Hid ((w2.alloc (.cells #[.int .i64 0, .string ⟨#[]⟩, .int .i64 0, .int .i64 0] 134)).drew.heap.size = w2.heap.size + 1 ∧ R ≠ w2.heap.size ∧ g ≠ w2.heap.size ∧ w.heap.size < w2.heap.size) := ⟨hsz, by omega, by omega, H2.out.2.2.2⟩
   clear hbz hnz hsz hRl
   generalize (w2.alloc (.cells #[.int .i64 0, .string ⟨#[]⟩, .int .i64 0, .int .i64 0] 134)).drew = w3 at *
   generalize w2.heap.size = B6 at *
   refine hK.out _ _ hS3 (fun hHeld => ?_)
   clear hK K
   have hcell : ∀ j, w3.cell? ⟨B6, j, none⟩ = #[Value.int .i64 0, .string ⟨#[]⟩, .int .i64 0, .int .i64 0][j]? := fun j => cell_of_row _ _ _ _ _ _ NZ.out
   have z0 := hcell 0
   have z1 := hcell 1
   have z2 := hcell 2
   have z3 := hcell 3
   have hfr : ∀ j, w3.frozen? ⟨B6, j, none⟩ = false := fun j => by have := NZ.out; simp [World.frozen?, this]
   have f0 := hfr 0
   have f1 := hfr 1
   have f2 := hfr 2
   have f3 := hfr 3
   clear hcell hfr
   simp at z0 z1 z2 z3
   refine wpAnyH_ready (rs := [11]) (by kernel_rfl) (by simp) ?_
   refine AllReadyH.cons rfl (fun K hK => ?_) AllReadyH.nil
   go_simp
   have hb := below_cells B6 0 [.int .i64 t.kind, .string (strN t.text), .int .i64 t.num, .int .i64 t.place] w3
   have hrg := World.rangeAt_setCells_same w3 B6 0 [.int .i64 t.kind, .string (strN t.text), .int .i64 t.num, .int .i64 t.place] (there_cells (cs := [.int .i64 0, .string ⟨#[]⟩, .int .i64 0, .int .i64 0]) NZ.out rfl)
   change K _ (w3.setCells B6 0 [.int .i64 t.kind, .string (strN t.text), .int .i64 t.num, .int .i64 t.place])
   generalize w3.setCells B6 0 [.int .i64 t.kind, .string (strN t.text), .int .i64 t.num, .int .i64 t.place] = w4 at *
   refine hK.out _ _ (hHeld.of (hb.2.1 _ NS.out.2.1) (hb.2.1 _ NS.out.2.2.1)) (fun _ => ?_)
   clear hK K hHeld hS3 z0 z1 z2 z3 f0 f1 f2 f3
   refine wpAnyH_done (by kernel_rfl) ?_ _
   have HC : Hid (PrC R S w B6 t (.ok u (S.all.drop i)) w4) := by
    obtain ⟨e4, e5, e6⟩ := hb
    obtain ⟨s1, s2, s3, s4⟩ := NS.out
    have hr := HR.out
    exact ⟨N3.out.1.other (by omega) e5, N3.out.2.1.low e4 (by omega), by rw [e5 _ (by omega)]; exact N3.out.2.2, s4, by omega, hrg⟩
   have HPk : Hid (peekT S.z (S.all.drop i) = t ∧ (S.all.drop i).tail = S.all.drop (i + 1)) := ⟨by rw [HD.out]; rfl, by rw [List.tail_drop]⟩
   clear hb hrg
   have hk0 := HC.out.tk 0 _ rfl
   by_cases k2 : t.kind = 2
   ·have q2 : ((t.kind : Int) == 2) = true := by rw [k2]; rfl
    have HW : Hid (m = .ok (.mk 1 t.num [] [] q) (S.all.drop i).tail) := by show _ = _; rw [HMp.out, prim_num (by rw [HPk.out.1]; exact k2), HPk.out.1, HQ.out, HPk.out.1]
    have hkp : 0 < t.kind := by omega
    clear k2
    obtain ⟨j, hj1, hj2, hj3, hj4, hj5⟩ := HC.out.st.step (k := t.kind) (by rw [HPk.out.1]) (by omega)
    have HC5 : Hid (PrC R S w B6 t (.ok () (S.all.drop i).tail) (w4.setCell ⟨R, 1, none⟩ (.int .i64 ((j : Int) + 1)))) := HC.out.moves HR.out hj5 hj4
    clear hj4 hj5
    go_upto_region 9 with fail
    generalize w4.setCell ⟨R, 1, none⟩ (.int .i64 ((j : Int) + 1)) = w5 at *
    clear hj1 hj2 hk0
    have hk2 := HC5.out.tk 2 _ rfl
    go_wp2_with (refine wpList_storeN info39s rfl (.tmp 4) (.tmp 56) rfl rfl w.heap.size rfl [_, _, _, _, _] rfl rfl HC5.out.th (by simp [Value.oneCell']) ?_; intro wf g1 g2 g3 g4 g5)
    refine bodyPost_ret (ret_cell (cs := [_, _, _, _, _]) Tryz.results259 Tryz.underlying202 rfl info39s _ _ w.heap.size rfl g1) rfl ?_
    exact ⟨HC5.out.mv.low g3 (Nat.le_refl _), ⟨.mk 1 t.num [] [] q, _, rfl, ⟨.slice none 0 0, rfl, ExsC.nothing _ _⟩, fun a r h => (by rw [HW.out] at h; first | (injection h with h; done) | cases h)⟩, by rw [HW.out]; exact HC5.out.st.other HR.out g4⟩
   ·have q2 : ((t.kind : Int) == 2) = false := by rw [beq_eq_false_iff_ne]; omega
    have N2 := Lib.hid k2
    clear k2
    by_cases k3 : t.kind = 3
    ·have q3 : ((t.kind : Int) == 3) = true := by rw [k3]; rfl
     have HW : Hid (m = .ok (.mk 3 0 t.text [] q) (S.all.drop i).tail) := by show _ = _; rw [HMp.out, prim_text (by rw [HPk.out.1]; exact k3), HPk.out.1, HQ.out, HPk.out.1]
     have hkp : 0 < t.kind := by omega
     clear k3
     obtain ⟨j, hj1, hj2, hj3, hj4, hj5⟩ := HC.out.st.step (k := t.kind) (by rw [HPk.out.1]) (by omega)
     have HC5 : Hid (PrC R S w B6 t (.ok () (S.all.drop i).tail) (w4.setCell ⟨R, 1, none⟩ (.int .i64 ((j : Int) + 1)))) := HC.out.moves HR.out hj5 hj4
     clear hj4 hj5
     go_upto_region 12 with fail
     generalize w4.setCell ⟨R, 1, none⟩ (.int .i64 ((j : Int) + 1)) = w5 at *
     clear hj1 hj2 hk0
     have hk1 := HC5.out.tk 1 _ rfl
     go_wp2_with (refine wpList_storeN info39s rfl (.tmp 4) (.tmp 69) rfl rfl w.heap.size rfl [_, _, _, _, _] rfl rfl HC5.out.th (by simp [Value.oneCell']) ?_; intro wf g1 g2 g3 g4 g5)
     refine bodyPost_ret (ret_cell (cs := [_, _, _, _, _]) Tryz.results259 Tryz.underlying202 rfl info39s _ _ w.heap.size rfl g1) rfl ?_
     exact ⟨HC5.out.mv.low g3 (Nat.le_refl _), ⟨.mk 3 0 t.text [] q, _, rfl, ⟨.slice none 0 0, rfl, ExsC.nothing _ _⟩, fun a r h => (by rw [HW.out] at h; first | (injection h with h; done) | cases h)⟩, by rw [HW.out]; exact HC5.out.st.other HR.out g4⟩
    ·have q3 : ((t.kind : Int) == 3) = false := by rw [beq_eq_false_iff_ne]; omega
     have N3k := Lib.hid k3
     clear k3
     by_cases k1 : t.kind = 1
     ·have q1 : ((t.kind : Int) == 1) = true := by rw [k1]; rfl
      have HW : Hid (m = callP S.z e t.text q (S.all.drop i).tail) := by show _ = _; rw [HMp.out, prim_name (by rw [HPk.out.1]; exact k1), HPk.out.1, HQ.out, HPk.out.1]
      have hkp : 0 < t.kind := by omega
      clear k1
      obtain ⟨j, hj1, hj2, hj3, hj4, hj5⟩ := HC.out.st.step (k := t.kind) (by rw [HPk.out.1]) (by omega)
      have HC5 : Hid (PrC R S w B6 t (.ok () (S.all.drop i).tail) (w4.setCell ⟨R, 1, none⟩ (.int .i64 ((j : Int) + 1)))) := HC.out.moves HR.out hj5 hj4
      clear hj4 hj5
      go_upto_region 15 with fail
      generalize w4.setCell ⟨R, 1, none⟩ (.int .i64 ((j : Int) + 1)) = w5 at *
      clear hj1 hj2 hk0
      have hk1 := HC5.out.tk 1 _ rfl
      have K := Lib.hid (HN.out t.text q () _ w5 HY.out HC5.out.st)
      generalize callP S.z e t.text q (S.all.drop i).tail = mc at *
      go_wp2_with fail
      (with_reducible refine K.out.mono ?_)
      clear K
      rintro x w6 ⟨m6, ⟨v, xv, rfl, hq6, hv⟩, r6⟩
      obtain ⟨kk, rfl, hk2', hk1'⟩ := exV_cells hq6
      obtain ⟨A, c, rfl⟩ := exsC_slice hk2'
      have HC6 := Lib.hid (HC5.out.moves HR.out m6 r6)
      have HF6 : Hid (ExsC w6 (Rng w5.heap.size w6.heap.size) v.kids (.slice A v.kids.length c) ∧ (∀ a r, mc = .ok a r → v = a) ∧ w.heap.size < w5.heap.size) := ⟨hk2', hv, Nat.lt_trans HC5.out.lt HC5.out.bl⟩
      clear m6 hq6 hv r6 hk2' hk1'
      go_wp2_with (refine wpList_storeN info39s rfl (.tmp 4) (.tmp 84) rfl rfl w.heap.size rfl [_, _, _, _, _] rfl rfl HC6.out.th (by simp [Value.oneCell']) ?_; intro wf g1 g2 g3 g4 g5)
      refine bodyPost_ret (ret_cell (cs := [_, _, _, _, _]) Tryz.results259 Tryz.underlying202 rfl info39s _ _ w.heap.size rfl g1) rfl ?_
      obtain ⟨f3, f4, f5⟩ := HF6.out
      rw [HW.out]
      refine ⟨HC6.out.mv.low g3 (Nat.le_refl _), ⟨v, _, rfl, ⟨_, rfl, (f3.same fun q h => g4 q ?_).more fun q h => ⟨?_, ?_⟩⟩, f4⟩, HC6.out.st.other HR.out g4⟩
      ·have : w5.heap.size ≤ q := h.1
       omega
      ·have : w5.heap.size ≤ q := h.1
       omega
      ·have : q < w6.heap.size := h.2
       omega
     ·have q1 : ((t.kind : Int) == 1) = false := by rw [beq_eq_false_iff_ne]; omega
      have N1k := Lib.hid k1
      clear k1
      have K := Lib.hid (rtake R S _ [116, 114, 117, 101] ⟨#[116, 114, 117, 101]⟩ w4 HC.out.st (by kernel_rfl) (by unfold Byn; decide))
      cases hb : isR S.z [116, 114, 117, 101] (.ok u (S.all.drop i)) with
      | true =>
       obtain ⟨u', ts', e', hs1, hp1⟩ := pass_true hb
       injection e' with _ e'
       subst e'
       have HW : Hid (m = .ok (.mk 2 1 [] [] q) (S.all.drop i).tail) := by show _ = _; rw [HMp.out, prim_true hs1, HQ.out]
       rw [hb, hp1] at K
       clear hb hs1 hp1
       go_wp2_with fail
       (with_reducible refine K.out.mono ?_)
       clear K
       rintro x w5 ⟨rfl, h1, h2⟩
       have HC5 := Lib.hid (HC.out.moves HR.out h1 h2)
       clear h1 h2 hk0
       go_wp2_with (refine wpList_storeN info39s rfl (.tmp 4) (.tmp 88) rfl rfl w.heap.size rfl [_, _, _, _, _] rfl rfl HC5.out.th (by simp [Value.oneCell']) ?_; intro wf g1 g2 g3 g4 g5)
       refine bodyPost_ret (ret_cell (cs := [_, _, _, _, _]) Tryz.results259 Tryz.underlying202 rfl info39s _ _ w.heap.size rfl g1) rfl ?_
       exact ⟨HC5.out.mv.low g3 (Nat.le_refl _), ⟨.mk 2 1 [] [] q, _, rfl, ⟨.slice none 0 0, rfl, ExsC.nothing _ _⟩, fun a r h => (by rw [HW.out] at h; first | (injection h with h; done) | cases h)⟩, by rw [HW.out]; exact HC5.out.st.other HR.out g4⟩
      | false =>
       have HNt : Hid (seesT S.z [[116, 114, 117, 101]] (S.all.drop i) = false) := hb
       rw [hb, pass_false hb] at K
       clear hb
       go_wp2_with fail
       (with_reducible refine K.out.mono ?_)
       clear K
       rintro x w5 ⟨rfl, h1, h2⟩
       have HC5 := Lib.hid (HC.out.moves HR.out h1 h2)
       clear h1 h2 hk0
       have K := Lib.hid (rtake R S _ [102, 97, 108, 115, 101] ⟨#[102, 97, 108, 115, 101]⟩ w5 HC5.out.st (by kernel_rfl) (by unfold Byn; decide))
       cases hb : isR S.z [102, 97, 108, 115, 101] (.ok u (S.all.drop i)) with
       | true =>
        obtain ⟨u', ts', e', hs1, hp1⟩ := pass_true hb
        injection e' with _ e'
        subst e'
        have HW : Hid (m = .ok (.mk 2 0 [] [] q) (S.all.drop i).tail) := by show _ = _; rw [HMp.out, prim_false hs1, HQ.out]
        rw [hb, hp1] at K
        clear hb hs1 hp1
        go_wp2_with fail
        (with_reducible refine K.out.mono ?_)
        clear K
        rintro x w6 ⟨rfl, h1, h2⟩
        have HC6 := Lib.hid (HC5.out.moves HR.out h1 h2)
        clear h1 h2
        go_wp2_with (refine wpList_storeN info39s rfl (.tmp 4) (.tmp 92) rfl rfl w.heap.size rfl [_, _, _, _, _] rfl rfl HC6.out.th (by simp [Value.oneCell']) ?_; intro wf g1 g2 g3 g4 g5)
        refine bodyPost_ret (ret_cell (cs := [_, _, _, _, _]) Tryz.results259 Tryz.underlying202 rfl info39s _ _ w.heap.size rfl g1) rfl ?_
        exact ⟨HC6.out.mv.low g3 (Nat.le_refl _), ⟨.mk 2 0 [] [] q, _, rfl, ⟨.slice none 0 0, rfl, ExsC.nothing _ _⟩, fun a r h => (by rw [HW.out] at h; first | (injection h with h; done) | cases h)⟩, by rw [HW.out]; exact HC6.out.st.other HR.out g4⟩
       | false =>
        have HNf : Hid (seesT S.z [[102, 97, 108, 115, 101]] (S.all.drop i) = false) := hb
        rw [hb, pass_false hb] at K
        clear hb
        go_wp2_with fail
        (with_reducible refine K.out.mono ?_)
        clear K
        rintro x w6 ⟨rfl, h1, h2⟩
        have HCa := Lib.hid (HC5.out.moves HR.out h1 h2)
        clear h1 h2
        have K := Lib.hid (ris R S _ [40] ⟨#[40]⟩ w6 HCa.out.st (by kernel_rfl) (by unfold Byn; decide))
        cases hb : isR S.z [40] (.ok u (S.all.drop i)) with
        | true =>
         have HW : Hid (m = innerP S.z e (S.all.drop i)) := by show _ = _; rw [HMp.out, prim_inner hb]
         rw [hb] at K
         clear hb
         go_wp2_with fail
         (with_reducible refine K.out.mono ?_)
         clear K
         rintro x w7 ⟨rfl, h1⟩
         have HCb := Lib.hid (HCa.out.moves HR.out (Moves.of_below h1 (Nat.le_refl _)) (HCa.out.st.below h1 (Nat.le_refl _)))
         clear h1
         have K := Lib.hid (rinner R S d e HE.out hd _ w7 HCb.out.st)
         rw [show (Res.bind (.ok u (S.all.drop i)) fun _ ts => innerP S.z e ts) = innerP S.z e (S.all.drop i) from rfl] at K
         generalize innerP S.z e (S.all.drop i) = mc at *
         go_wp2_with fail
         (with_reducible refine K.out.mono ?_)
         clear K
         rintro x w6 ⟨m6, ⟨v, xv, rfl, hq6, hv⟩, r6⟩
         obtain ⟨kk, rfl, hk2', hk1'⟩ := exV_cells hq6
         obtain ⟨A, c, rfl⟩ := exsC_slice hk2'
         have HC6 := Lib.hid (HCb.out.moves HR.out m6 r6)
         have HF6 : Hid (ExsC w6 (Rng w7.heap.size w6.heap.size) v.kids (.slice A v.kids.length c) ∧ (∀ a r, mc = .ok a r → v = a) ∧ w.heap.size < w7.heap.size) := ⟨hk2', hv, Nat.lt_trans HCb.out.lt HCb.out.bl⟩
         clear m6 hq6 hv r6 hk2' hk1'
         go_wp2_with (refine wpList_storeN info39s rfl (.tmp 4) (.tmp 97) rfl rfl w.heap.size rfl [_, _, _, _, _] rfl rfl HC6.out.th (by simp [Value.oneCell']) ?_; intro wf g1 g2 g3 g4 g5)
         refine bodyPost_ret (ret_cell (cs := [_, _, _, _, _]) Tryz.results259 Tryz.underlying202 rfl info39s _ _ w.heap.size rfl g1) rfl ?_
         obtain ⟨f3, f4, f5⟩ := HF6.out
         rw [HW.out]
         refine ⟨HC6.out.mv.low g3 (Nat.le_refl _), ⟨v, _, rfl, ⟨_, rfl, (f3.same fun q h => g4 q ?_).more fun q h => ⟨?_, ?_⟩⟩, f4⟩, HC6.out.st.other HR.out g4⟩
         ·have : w7.heap.size ≤ q := h.1
          omega
         ·have : w7.heap.size ≤ q := h.1
          omega
         ·have : q < w6.heap.size := h.2
          omega
        | false =>
         have HNi : Hid (seesT S.z [[40]] (S.all.drop i) = false) := hb
         rw [hb] at K
         clear hb
         go_wp2_with fail
         (with_reducible refine K.out.mono ?_)
         clear K
         rintro x w7 ⟨rfl, h1⟩
         have HCb := Lib.hid (HCa.out.moves HR.out (Moves.of_below h1 (Nat.le_refl _)) (HCa.out.st.below h1 (Nat.le_refl _)))
         clear h1
         have b8 := below_alloc w7 (.cells #[.string ⟨#[103, 101, 116]⟩, .string ⟨#[104, 97, 115]⟩, .string ⟨#[108, 101, 110]⟩] 9)
         have HI : Hid (PrC R S w B6 t (.ok u (S.all.drop i)) (w7.alloc (.cells #[.string ⟨#[103, 101, 116]⟩, .string ⟨#[104, 97, 115]⟩, .string ⟨#[108, 101, 110]⟩] 9)) ∧ w7.heap.size + 1 ≤ (w7.alloc (.cells #[.string ⟨#[103, 101, 116]⟩, .string ⟨#[104, 97, 115]⟩, .string ⟨#[108, 101, 110]⟩] 9)).heap.size ∧ RowAt (w7.alloc (.cells #[.string ⟨#[103, 101, 116]⟩, .string ⟨#[104, 97, 115]⟩, .string ⟨#[108, 101, 110]⟩] 9)) R (w7.heap.size + 1) ⟨w7.heap.size, 0, none⟩ wdN) :=
          ⟨HCb.out.moves HR.out (Moves.of_below b8 (Nat.le_refl _)) (HCb.out.st.below b8 (Nat.le_refl _)), by simp, RowAt.new w7 R wdN _ (by kernel_rfl) HCb.out.st.lt _ (by omega)⟩
         clear b8
         go_wp2_with fail
         generalize w7.alloc (.cells #[.string ⟨#[103, 101, 116]⟩, .string ⟨#[104, 97, 115]⟩, .string ⟨#[108, 101, 110]⟩] 9) = w8 at *
         generalize (Addr.mk w7.heap.size 0 none) = ad at *
         generalize w7.heap.size = n7 at *
         go_loopw [8] (fun v wr => ∃ k : Nat, k ≤ 3 ∧ v = .int .i64 k ∧ Hid (PrC R S w B6 t (.ok u (S.all.drop i)) wr ∧ n7 + 1 ≤ wr.heap.size ∧ RowAt wr R (n7 + 1) ad wdN ∧ Nots S.z wdN (.ok u (S.all.drop i)) k)) (fun v _ => 3 - (intOf v).toNat)
         case atStart => exact ⟨0, Nat.zero_le _, rfl, HI.out.1, HI.out.2.1, HI.out.2.2, Nots.zero _ _ _⟩
         case round =>
          obtain ⟨k, hk, rfl, HK⟩ := hrel
          by_cases hlt : k < 3
          ·have hg : wdN[k]? = some wdN[k] := List.getElem?_eq_getElem hlt
           generalize wdN[k] = s at hg
           have c1 := HK.out.2.2.1.2.2 k s hg
           have K := Lib.hid (rtake R S _ s _ wr HK.out.1.st rfl (wdN_byn s (List.mem_of_getElem? hg)))
           have HGk := Lib.hid hg
           clear hg
           cases hb : isR S.z s (.ok u (S.all.drop i)) with
           | false =>
            have HEk : Hid (Nots S.z wdN (.ok u (S.all.drop i)) (k + 1)) := HK.out.2.2.2.succ HGk.out hb
            rw [hb, pass_false hb] at K
            clear hb
            go_wp2_with fail
            (with_reducible refine K.out.mono ?_)
            clear K
            rintro x w9 ⟨rfl, h1, h2⟩
            have HF : Hid (PrC R S w B6 t (.ok u (S.all.drop i)) w9 ∧ n7 + 1 ≤ w9.heap.size ∧ RowAt w9 R (n7 + 1) ad wdN) := ⟨HK.out.1.moves HR.out h1 h2, Nat.le_trans HK.out.2.1 h1.size, HK.out.2.2.1.moves h1 HK.out.2.1⟩
            clear h1 h2
            go_wp2
            go_round
            case rel => exact ⟨k + 1, by omega, by go_num, HF.out.1, HF.out.2.1, HF.out.2.2, HEk.out⟩
            case measure => simp [intOf]; omega
           | true =>
            obtain ⟨u', ts', e', hs1, hp1⟩ := pass_true hb
            injection e' with _ e'
            subst e'
            have HW : Hid (m = (innerP S.z e (S.all.drop i).tail).bind fun x r => .ok (.mk (8 + k) 0 [] [x] q) r) := by show _ = _; rw [HMp.out, prim_word HGk.out hs1, HQ.out]
            rw [hb, hp1] at K
            clear hb hs1 hp1
            go_wp2_with fail
            (with_reducible refine K.out.mono ?_)
            clear K
            rintro x w9 ⟨rfl, h1, h2⟩
            have HC9 := Lib.hid (HK.out.1.moves HR.out h1 h2)
            clear h1 h2 c1
            have K := Lib.hid (rinner R S d e HE.out hd _ w9 HC9.out.st)
            rw [show (Res.bind (.ok () (S.all.drop i).tail) fun _ ts => innerP S.z e ts) = innerP S.z e (S.all.drop i).tail from rfl] at K
            generalize innerP S.z e (S.all.drop i).tail = mc at *
            go_wp2_with fail
            (with_reducible refine K.out.mono ?_)
            clear K
            rintro x w10 ⟨m6, ⟨v, xv, rfl, hq6, hv⟩, r6⟩
            obtain ⟨kk, rfl, hk2', hk1'⟩ := exV_cells hq6
            obtain ⟨A, c, rfl⟩ := exsC_slice hk2'
            have o10 := open_one r6 (exO v (.slice A v.kids.length c))
            have HC11 := Lib.hid ((HC9.out.moves HR.out m6 r6).moves HR.out (Moves.of_below o10.2.1 (Nat.le_refl _)) o10.1)
            have HF11 : Hid (ExsC (w10.alloc (exO v (.slice A v.kids.length c))) (Rng w9.heap.size w10.heap.size) v.kids (.slice A v.kids.length c) ∧ (∀ a r, mc = .ok a r → v = a) ∧ w.heap.size < w9.heap.size ∧ ExAt (w10.alloc (exO v (.slice A v.kids.length c))) w10.heap.size v (.slice A v.kids.length c) ∧ w9.heap.size ≤ w10.heap.size ∧ (w10.alloc (exO v (.slice A v.kids.length c))).heap.size = w10.heap.size + 1) := ⟨hk2'.same fun q h => o10.2.1.block q h.2, hv, Nat.lt_trans HC9.out.lt HC9.out.bl, ExAt.of_block o10.2.2.1, m6.size, o10.2.2.2.1⟩
            clear m6 hq6 hv r6 hk2' hk1' o10
            go_upto_region 28 with fail
            generalize w10.alloc (exO v (.slice A v.kids.length c)) = w11 at *
            generalize w10.heap.size = n10 at *
            obtain ⟨l0, l1, l2, l3, l4⟩ := HF11.out.2.2.2.1.cells
            have b12 := below_alloc w11 (exO v (.slice A v.kids.length c))
            have n12 := heap_alloc_new w11 (exO v (.slice A v.kids.length c))
            have HC12 := Lib.hid (HC11.out.moves HR.out (Moves.of_below b12 (Nat.le_refl _)) (HC11.out.st.below b12 (Nat.le_refl _)))
            have HB12 : Hid ((w11.alloc (exO v (.slice A v.kids.length c))).heap[w11.heap.size]? = some (exO v (.slice A v.kids.length c)) ∧ ExsC (w11.alloc (exO v (.slice A v.kids.length c))) (Rng w9.heap.size n10) v.kids (.slice A v.kids.length c) ∧ (w11.alloc (exO v (.slice A v.kids.length c))).heap.size = w11.heap.size + 1) := ⟨n12, HF11.out.1.same fun q h => b12.block q (by have h1 := h.2; have h2 := HF11.out.2.2.2.2.2; omega), by simp⟩
            clear b12 n12
            go_wp2_with (refine wpList_storeN info39s rfl (.tmp 4) (.tmp 117) rfl rfl w.heap.size rfl [_, _, _, _, _] rfl rfl HC12.out.th (by simp [Value.oneCell']) ?_; intro wf g1 g2 g3 g4 g5)
            refine bodyPost_ret (ret_cell (cs := [_, _, _, _, _]) Tryz.results259 Tryz.underlying202 rfl info39s _ _ w.heap.size rfl g1) rfl ?_
            obtain ⟨f1, f2, f3, f4, f5, f6⟩ := HF11.out
            obtain ⟨y1, y2, y3⟩ := HB12.out
            have y4 : wf.heap.size = w11.heap.size + 1 := g5.trans y3
            rw [HW.out]
            refine ⟨HC12.out.mv.low g3 (Nat.le_refl _), ⟨.mk (8 + k) 0 [] [v] q, _, rfl, ⟨.slice (some ⟨w11.heap.size, 0, none⟩) 1 1, by show _ = Value.agg #[.int .i64 ((8 + k : Nat) : Int), .int .i64 0, .string ⟨#[]⟩, _, .int .i64 q]; rw [show ((8 + k : Nat) : Int) = 8 + (k : Int) by omega], exs_oneR (k := .slice A v.kids.length c) (by rw [g4 _ (by omega)]; exact y1) ⟨by omega, by omega⟩ ((y2.same fun q h => g4 q ?_).more fun q h => ⟨?_, ?_⟩)⟩, fun a r h => ?_⟩, ?_⟩
            ·have : w9.heap.size ≤ q := h.1
             omega
            ·have : w9.heap.size ≤ q := h.1
             omega
            ·have : q < n10 := h.2
             omega
            ·cases hmc : mc with
             | bad c0 p0 => rw [hmc] at h; cases h
             | ok a' r' =>
              rw [hmc] at h
              simp only [Res.bind_ok] at h
              injection h with h _
              rw [← h, f2 a' r' hmc]
            ·have hu : ∀ (f : Ex → Ex), (mc.bind fun x r => Res.ok (f x) r).unit = mc.unit := fun f => by cases mc <;> rfl
             rw [hu]
             exact HC12.out.st.other HR.out g4
          ·obtain rfl : k = 3 := by omega
           have HW : Hid (m = failT S.z 41 (S.all.drop i)) := by show _ = _; rw [HMp.out, prim_none (u := u) (by rw [HPk.out.1]; exact N2.out) (by rw [HPk.out.1]; exact N3k.out) (by rw [HPk.out.1]; exact N1k.out) HNt.out HNf.out HNi.out HK.out.2.2.2]
           have K := Lib.hid (rfail R S _ 41 (by omega) 41 rfl wr HK.out.1.st)
           go_wp2_with fail
           (with_reducible refine K.out.mono ?_)
           clear K
           rintro x w9 ⟨rfl, h1, h2⟩
           have HC9 := Lib.hid (HK.out.1.moves HR.out h1 h2)
           clear h1 h2
           go_wp2_with (refine wpList_storeN info39s rfl (.tmp 4) (.tmp 120) rfl rfl w.heap.size rfl [_, _, _, _, _] rfl rfl HC9.out.th (by simp [Value.oneCell']) ?_; intro wf g1 g2 g3 g4 g5)
           refine bodyPost_ret (ret_cell (cs := [_, _, _, _, _]) Tryz.results259 Tryz.underlying202 rfl info39s _ _ w.heap.size rfl g1) rfl ?_
           exact ⟨HC9.out.mv.low g3 (Nat.le_refl _), ⟨.mk 0 0 [] [] 0, _, rfl, ⟨.slice none 0 0, rfl, ExsC.nothing _ _⟩, fun a r h => (by rw [HW.out] at h; cases h)⟩, by rw [HW.out]; exact HC9.out.st.other HR.out g4⟩
  ·have HD : Hid (S.all.drop i = []) := List.drop_eq_nil_of_le (by omega)
   clear hg b1 hq HA
   go_wp2_with fail
   go_quiet (fail)
   have h2 := H1.out.below (below_drewN (Below.refl w1.heap.size w1) nq) (Nat.le_refl _)
   have K := Lib.hid (rfail R S _ 41 (by omega) 41 rfl _ h2)
   have HM2 : Hid (Moves R w (w1.drewN nq) ∧ (w1.drewN nq).heap[w.heap.size]? = some zE ∧ w.heap.size < (w1.drewN nq).heap.size) := ⟨HM1.out.1.below (below_drewN (Below.refl w1.heap.size w1) nq) (Nat.le_refl _), HM1.out.2.1, HM1.out.2.2⟩
   clear h2 c0 c1 c2 c3 c4
   generalize w1.drewN nq = w2 at *
   go_wp2_with fail
   (with_reducible refine K.out.mono ?_)
   clear K
   rintro x w3 ⟨rfl, m3, r3⟩
   have th := Lib.hid (there_cells (cs := [.int .i64 0, .int .i64 0, .string ⟨#[]⟩, .slice none 0 0, .int .i64 0]) (T := 202) (w := w3) (g := w.heap.size) (by rw [m3.block' HM2.out.2.2 (by have := HR.out; omega)]; exact HM2.out.2.1) rfl)
   have HF : Hid (Moves R w w3 ∧ Rs w3 R S (failT S.z 41 (S.all.drop i))) := ⟨HM2.out.1.trans m3, r3⟩
   have HW : Hid (m = failT S.z 41 (S.all.drop i)) := by show _ = _; rw [HMp.out, HD.out]; rfl
   clear m3 r3
   go_wp2_with (refine wpList_storeN info39s rfl (.tmp 4) (.tmp 31) rfl rfl w.heap.size rfl [_, _, _, _, _] rfl rfl th.out (by simp [Value.oneCell']) ?_; intro w5 g1 g2 g3 g4 g5)
   refine bodyPost_ret (ret_cell (cs := [_, _, _, _, _]) Tryz.results259 Tryz.underlying202 rfl info39s _ _ w.heap.size rfl g1) rfl ?_
   exact ⟨HF.out.1.low g3 (Nat.le_refl _), ⟨.mk 0 0 [] [] 0, _, rfl, ⟨.slice none 0 0, rfl, ExsC.nothing _ _⟩, fun a r h => (by rw [HW.out] at h; cases h)⟩, by rw [HW.out]; exact HF.out.2.other HR.out g4⟩
end
section
open Go.RowKit
set_option maxRecDepth 100000
set_option linter.unusedSimpArgs false
set_option linter.unusedVariables false
def argsG (z : Nat) (e : Par Ex) (f : Nat) (l : List Ex) : Par (List Ex) := fun ts => if l.isEmpty then (if seesT z [[41]] ts then .ok [] ts.tail else (e ts).bind fun x r' => moreL z e r'.length [x] r') else moreL z e f l ts
theorem moreL_end {z : Nat} {e : Par Ex} {l : List Ex} {ts : List Tok} (h : seesT z [[44]] ts = false) : ∀ f, moreL z e f l ts = (wantT z [41] ts).bind fun _ r => .ok l r
 | 0 => rfl
 | f + 1 => by rw [moreL, if_neg (by simp [h])]
theorem args_exit {z f : Nat} {e : Par Ex} {l : List Ex} {σ : Res Unit} (h : ∀ u ts, σ = .ok u ts → seesT z [[41]] ts = true) : (σ.bind fun _ ts => argsG z e f l ts) = (mustR z [41] σ).bind fun _ ts => .ok l ts := by
 cases σ with
 | bad c p => rfl
 | ok u ts =>
  have hs := h u ts rfl
  show argsG z e f l ts = (wantT z [41] ts).bind _
  have hw : wantT z [41] ts = .ok () ts.tail := by unfold wantT; rw [if_pos hs]
  rw [hw]
  unfold argsG
  cases l with
  | nil => show (if seesT z [[41]] ts then _ else _) = _; rw [if_pos hs]; rfl
  | cons a l =>
   rw [if_neg (by simp), moreL_end (sees_text hs (by decide)), hw]
theorem args_first {z f : Nat} {e : Par Ex} {ts : List Tok} (h : seesT z [[41]] ts = false) : argsG z e f [] ts = (e ts).bind fun x r' => moreL z e r'.length [x] r' := by
 show (if seesT z [[41]] ts then _ else _) = _
 rw [if_neg (by simp [h])]
theorem args_more {z f : Nat} {e : Par Ex} {l : List Ex} {ts : List Tok} (hl : l ≠ []) (h : seesT z [[44]] ts = true) : argsG z e (f + 1) l ts = (e ts.tail).bind fun y r => moreL z e f (l ++ [y]) r := by
 unfold argsG
 rw [if_neg (by simpa using hl), moreL, if_pos h]
theorem args_stop {z f : Nat} {e : Par Ex} {l : List Ex} {ts : List Tok} (hl : l ≠ []) (h1 : seesT z [[41]] ts = false) (h : seesT z [[44]] ts = false) : argsG z e f l ts = failT z 41 ts := by
 unfold argsG
 rw [if_neg (by simpa using hl), moreL_end h]
 unfold wantT
 rw [if_neg (by simp [h1])]
 rfl
theorem args_bind {z : Nat} {e : Par Ex} {l : List Ex} {y : Ex} {f : Nat} (ts : List Tok) : argsG z e f (l ++ [y]) ts = moreL z e f (l ++ [y]) ts := by
 unfold argsG
 rw [if_neg (by simp)]
theorem callP_yes {z : Nat} {e : Par Ex} {s : List Nat} {q : Nat} {ts : List Tok} (h : seesT z [[40]] ts = true) : callP z e s q ts = (argsG z e ts.tail.length [] ts.tail).bind fun l r => .ok (.mk 5 0 s l q) r := by
 unfold callP listP wantT
 rw [if_pos h, if_pos h]
 rfl
theorem callP_no {z : Nat} {e : Par Ex} {s : List Nat} {q : Nat} {ts : List Tok} (h : seesT z [[40]] ts = false) : callP z e s q ts = .ok (.mk 4 0 s [] q) ts := by
 unfold callP
 rw [if_neg (by simp [h])]
structure NmC (R : Nat) (S : Src) (w : World) (L : Nat) (s : List Nat) (q : Nat) (l : List Ex) (V : Value) (σ : Res Unit) (wr : World) : Prop where
 st : Rs wr R S σ
 va : ExAt wr L (.mk 5 0 s l q) V
 z : wr.heap[w.heap.size]? = some zE
 own : OwnE (L + 1) wr l V
 mv : Moves R w wr
 lo : L + 1 ≤ wr.heap.size
 sm : ∀ u ts, σ = .ok u ts → l.length + ts.length ≤ 4096
theorem NmC.moves {R : Nat} {S : Src} {w : World} {L : Nat} {s : List Nat} {q : Nat} {l : List Ex} {V : Value} {σ σ' : Res Unit} {wr w' : World} (h : NmC R S w L s q l V σ wr) (hR : R < w.heap.size) (hL : w.heap.size < L) (hm : Moves R wr w') (hs : Rs w' R S σ') (hsm : ∀ u ts, σ' = .ok u ts → l.length + ts.length ≤ 4096) : NmC R S w L s q l V σ' w' := by
 have h1 := h.lo
 exact ⟨hs, h.va.of (hm.block' (by omega) (by omega)), by rw [hm.block' (by omega) (by omega)]; exact h.z, h.own.moves hm (by omega), h.mv.trans hm, Nat.le_trans h1 hm.size, hsm⟩
theorem NmC.th {R : Nat} {S : Src} {w : World} {L : Nat} {s : List Nat} {q : Nat} {l : List Ex} {V : Value} {σ : Res Unit} {wr : World} (h : NmC R S w L s q l V σ wr) : wr.there w.heap.size 0 5 := there_cells (cs := [.int .i64 0, .int .i64 0, .string ⟨#[]⟩, .slice none 0 0, .int .i64 0]) (T := 202) h.z rfl
def NmS (R : Nat) (S : Src) (w : World) (L : Nat) (s : List Nat) (q : Nat) (e : Par Ex) (m : Res Ex) (wr : World) : Prop :=
 ∃ l A c σ f, NmC R S w L s q l (.slice A l.length c) σ wr ∧ (∀ u ts, σ = .ok u ts → ts.length ≤ f) ∧ m = (σ.bind fun _ ts => argsG S.z e f l ts).bind fun l r => .ok (.mk 5 0 s l q) r
theorem pass_sm {z : Nat} {t : List Nat} {σ : Res Unit} {n : Nat} (h : ∀ u ts, σ = .ok u ts → n + ts.length ≤ 4096) : ∀ u ts, mustR z t σ = .ok u ts → n + ts.length ≤ 4096 := by
 intro u ts hm
 cases σ with
 | bad c p => cases hm
 | ok u' ts' =>
  have := h u' ts' rfl
  have hm' : wantT z t ts' = .ok u ts := hm
  unfold wantT at hm'
  split at hm'
  ·injection hm' with _ hm'
   rw [← hm']
   simp
   omega
  ·cases hm'
theorem Rs.keep {w w' : World} {R : Nat} {S : Src} {σ : Res Unit} (h : Rs w R S σ) (ho : ∀ k, k ≤ R → w'.heap[k]? = w.heap[k]?) : Rs w' R S σ := by
 have key : ∀ {i e p}, Rg0 w R S i e p → Rg0 w' R S i e p := fun h => ⟨h.1.of fun k hk => ho k (by omega), h.2.1, by rw [ho R (Nat.le_refl _)]; exact h.2.2⟩
 cases σ with
 | ok u ts => obtain ⟨i, e, h⟩ := h; exact ⟨i, e, key h⟩
 | bad c p => obtain ⟨e, i, h⟩ := h; exact ⟨e, i, key h⟩
def ApartR (lo : Nat) (U : Value) (w : World) (l : List Ex) (k : Value) : Prop := ExsC w (fun b => (lo ≤ b ∧ some b ≠ U.ownBlock) ∧ b < w.heap.size) l k
theorem ApartR.moves {R lo : Nat} {U : Value} {w w' : World} {l : List Ex} {k : Value} (h : ApartR lo U w l k) (hm : Moves R w w') (hR : R < lo) : ApartR lo U w' l k :=
 (ExsC.same h (hm.same fun q hq => ⟨hq.2, by omega⟩)).more fun q hq => ⟨hq.1, Nat.lt_of_lt_of_le hq.2 hm.size⟩
theorem NmC.apart {R : Nat} {S : Src} {w : World} {L : Nat} {s : List Nat} {q : Nat} {l l' : List Ex} {V k : Value} {σ : Res Unit} {wr w' : World} (h : NmC R S w L s q l V σ wr) (hk : ExsC w' (Rng wr.heap.size w'.heap.size) l' k) : ApartR (L + 1) V w' l' k := by
 obtain ⟨ks, _, ho, _⟩ := h.own
 exact kids_apart hk (fun g hg => (ho.lt g hg).2) h.lo
theorem ExAt.store3 {w : World} {L : Nat} {s : List Nat} {q : Nat} {l l' : List Ex} {U : Value} (h : ExAt w L (.mk 5 0 s l q) U) (V : Value) : ExAt (w.setCell ⟨L, 3, none⟩ V) L (.mk 5 0 s l' q) V := by
 have hc3 : w.cell? ⟨L, 3, none⟩ = some U := h.1 3 _ rfl
 constructor
 ·intro j v hv
  by_cases hj : j = 3
  ·subst hj
   have hv' : V = v := by simpa [exC] using hv
   subst hv'
   exact World.cell?_setCell_same _ _ _ (by rw [hc3])
  ·rw [World.cell?_setCell_other _ _ _ _ (by intro e; injection e with e1 e2; omega)]
   refine h.1 j v ?_
   rcases j with _ | _ | _ | _ | _ | j
   ·exact hv
   ·exact hv
   ·exact hv
   ·exact absurd rfl hj
   ·exact hv
   ·simp [exC] at hv
 ·intro j hj
  have h1 := h.2 j hj
  constructor
  ·by_cases hj : j = 3
   ·subst hj
    rw [show (⟨L, 0 + 3, none⟩ : Addr) = ⟨L, 3, none⟩ from rfl, World.cell?_setCell_same _ _ _ (by rw [hc3])]
    rfl
   ·rw [World.cell?_setCell_other _ _ _ _ (by intro e; injection e with e1 e2; omega)]
    exact h1.1
  ·rw [World.frozen?_setCell]
   exact h1.2
theorem NmC.more {R : Nat} {S : Src} {w : World} {L : Nat} {s : List Nat} {q : Nat} {l : List Ex} {V V' : Value} {σ : Res Unit} {wr w' : World} {y : Ex} {k : Value} {ks : List Value} (h : NmC R S w L s q l V σ wr) (hR : R < w.heap.size) (hL : w.heap.size < L) (hk : ks.length = l.length)
  (hkid : ∀ (i : Nat) (e : Ex) (k : Value), l[i]? = some e → ks[i]? = some k → ExsC wr (fun b => (L + 1 ≤ b ∧ some b ≠ V.ownBlock) ∧ b < wr.heap.size) e.kids k) (ho0 : wr.ownsRow (L + 1) 202 5 V l.length (exsC l ks)) (ho : w'.ownsRow (L + 1) 202 5 V' (l.length + 1) (exsC l ks ++ exC y k)) (hg : wr.grownBy w' V.ownBlock)
  (hV : V'.ownBlock = V.ownBlock ∨ ∃ g, V'.ownBlock = some g ∧ wr.heap.size ≤ g) (hy : ApartR (L + 1) V wr y.kids k) (hsm : ∀ u ts, σ = .ok u ts → (l ++ [y]).length + ts.length ≤ 4096) : NmC R S w L s q (l ++ [y]) V' σ (w'.setCell ⟨L, 3, none⟩ V') := by
 obtain ⟨O, B⟩ := OwnE.grown hk hkid ho0 ho hg hV hy h.lo
 have hs : ∀ b, b ≠ L → (w'.setCell ⟨L, 3, none⟩ V').heap[b]? = w'.heap[b]? := fun b hb => Below.heap_setCell _ _ _ _ hb
 have hsz : (w'.setCell ⟨L, 3, none⟩ V').heap.size = w'.heap.size := by simp [World.setCell]
 have hlo := h.lo
 refine ⟨h.st.keep fun b hb => by rw [hs b (by omega), B.block b (by omega)], ExAt.store3 (l := l) (U := V) (h.va.of (B.block L (by omega))) V', by rw [hs _ (by omega), B.block _ (by omega)]; exact h.z, O.moves (Moves.set 3 V') (by omega), (h.mv.low B (by omega)).low ((Below.refl L w').setCell (p := ⟨L, 3, none⟩) (Nat.le_refl _) V') (by omega), by rw [hsz]; have := B.size; omega, hsm⟩
set_option maxHeartbeats 12800000 in
theorem rnamed (R : Nat) (S : Src) (d : Nat) (e : Par Ex) (he : ExprR R S (d + 1) e) (ht : Takes e) (hd : d < 100) (hsm : S.all.length ≤ 4096) : NamedR R S d e := by
 intro s q u ts w hy ha
 have HR := Lib.hid ha.lt
 have h0 := open_one ha zE
 have K := Lib.hid (rtake R S _ [40] ⟨#[40]⟩ _ h0.1 (by kernel_rfl) (by unfold Byn; decide))
 have HE := Lib.hid he
 have HT := Lib.hid ht
 have HA := Lib.hid h0
 have HLn : Hid (ts.length ≤ 4096) := by
  obtain ⟨i, rfl, _⟩ := ha
  show _ ≤ _
  simp
  omega
 have HMp : Hid (callP S.z e s q ts = callP S.z e s q ts) := rfl
 cases hb : isR S.z [40] (.ok u ts) with
 | false =>
  have HW := Lib.hid (callP_no (e := e) (s := s) (q := q) (z := S.z) (ts := ts) hb)
  generalize callP S.z e s q ts = m at *
  rw [hb, pass_false hb] at K
  clear ha he ht h0 hb
  go_enter Tryz.func288, Tryz.ntmps288
  go_wp2_with fail
  generalize w.alloc zE = w0 at *
  (with_reducible refine K.out.mono ?_)
  clear K
  rintro x w1 ⟨rfl, h1, h2⟩
  have HF : Hid (Moves R w w1 ∧ Rs w1 R S (.ok u ts) ∧ w1.there w.heap.size 0 5) := ⟨(Moves.of_below HA.out.2.1 (Nat.le_refl _)).trans h1, h2, there_cells (cs := [.int .i64 0, .int .i64 0, .string ⟨#[]⟩, .slice none 0 0, .int .i64 0]) (T := 202) (w := w1) (g := w.heap.size) (by rw [h1.block' (by have := HA.out.2.2.2.1; omega) (by have := HR.out; omega)]; exact HA.out.2.2.1) rfl⟩
  clear h1 h2
  go_wp2_with (refine wpList_storeN info39s rfl (.tmp 8) (.tmp 15) rfl rfl w.heap.size rfl [_, _, _, _, _] rfl rfl HF.out.2.2 (by simp [Value.oneCell']) ?_; intro wf g1 g2 g3 g4 g5)
  refine bodyPost_ret (ret_cell (cs := [_, _, _, _, _]) Tryz.results288 Tryz.underlying202 rfl info39s _ _ w.heap.size rfl g1) rfl ?_
  exact ⟨HF.out.1.low g3 (Nat.le_refl _), ⟨.mk 4 0 s [] q, _, rfl, ⟨.slice none 0 0, rfl, ExsC.nothing _ _⟩, fun a r h => (by rw [HW.out] at h; injection h)⟩, by rw [HW.out]; exact HF.out.2.1.other HR.out g4⟩
 | true =>
  have HW0 := Lib.hid (callP_yes (e := e) (s := s) (q := q) (z := S.z) (ts := ts) hb)
  have HTl : Hid (ts.tail.length ≤ 4096) := by have := HLn.out; show _ ≤ _; simp; omega
  obtain ⟨u', ts', e', hs1, hp1⟩ := pass_true hb
  injection e' with _ e'
  subst e'
  generalize callP S.z e s q ts = m at *
  rw [hb, hp1] at K
  clear ha he ht h0 hb hs1 hp1
  go_enter Tryz.func288, Tryz.ntmps288
  go_wp2_with fail
  generalize w.alloc zE = w0 at *
  (with_reducible refine K.out.mono ?_)
  clear K
  rintro x w1 ⟨rfl, h1, h2⟩
  have o1 := open_one h2 (.cells #[.int .i64 5, .int .i64 0, .string (strN s), .slice none 0 0, .int .i64 q] 202)
  have HL : Hid (w.heap.size < w1.heap.size) := by have h3 := HA.out.2.2.2.1; have h4 := h1.size; show _ < _; omega
  have HS : Hid (NmS R S w w1.heap.size s q e m (w1.alloc (.cells #[.int .i64 5, .int .i64 0, .string (strN s), .slice none 0 0, .int .i64 q] 202))) := by
   have hl := HL.out
   have hr := HR.out
   refine ⟨[], none, 0, .ok () ts.tail, ts.tail.length, ⟨o1.1, ExAt.of_block o1.2.2.1, by rw [o1.2.1.block _ hl, h1.block' (by have := HA.out.2.2.2.1; omega) (by omega)]; exact HA.out.2.2.1, OwnE.nothing _ _, ((Moves.of_below HA.out.2.1 (Nat.le_refl _)).trans h1).below o1.2.1 (Nat.le_refl _), by have := o1.2.2.2.1; omega, fun u0 t0 h => ?_⟩, fun u0 t0 h => ?_, HW0.out⟩
   ·injection h with _ h
    rw [← h]
    simpa using HTl.out
   ·injection h with _ h
    rw [← h]
    exact Nat.le_refl _
  clear h1 h2 o1 HA HW0
  go_wp2_with fail
  generalize w1.alloc (.cells #[.int .i64 5, .int .i64 0, .string (strN s), .slice none 0 0, .int .i64 q] 202) = w2 at *
  generalize w1.heap.size = L at *
  clear HLn HTl HMp
  go_loopw [] (fun wr => NmS R S w L s q e m wr) (fun wr => measR R S wr)
  case atStart => exact HS.out
  case round =>
   obtain ⟨l, A, c, σ, f, hC, hf, hm⟩ := hrel
   have HC := Lib.hid hC
   have HF := Lib.hid hf
   have HM := Lib.hid hm
   clear hC hf hm
   cases σ with
   | bad c0 p0 =>
    have HX : Hid (∀ u ts, (Res.bad c0 p0 : Res Unit) = .ok u ts → seesT S.z [[41]] ts = true) := fun u ts h => by cases h
    generalize hσ : (Res.bad c0 p0 : Res Unit) = σ at *
    have hst := HC.out.st
    rw [← hσ] at hst
    obtain ⟨hne, i, hg⟩ := hst
    obtain ⟨_, _, c2, _, _⟩ := hg.cells
    have q1 : (((c0 : Nat) : Int) == 0) = false := by rw [beq_eq_false_iff_ne]; omega
    clear hne hg hσ
    have K := Lib.hid (rmust R S σ [41] ⟨#[41]⟩ wr HC.out.st (by kernel_rfl) (by unfold Byn; decide))
    have HW : Hid (m = ((mustR S.z [41] σ).bind fun _ ts => .ok l ts).bind fun l r => .ok (.mk 5 0 s l q) r) := by show _ = _; rw [HM.out, args_exit HX.out]
    go_wp2_with fail
    (with_reducible refine K.out.mono ?_)
    clear K
    rintro x w6 ⟨rfl, h1, h2⟩
    have HC6 := Lib.hid (HC.out.moves HR.out HL.out h1 h2 (pass_sm HC.out.sm))
    clear h1 h2
    obtain ⟨l0, l1, l2, l3, l4⟩ := HC6.out.va.cells
    go_wp2_with (refine wpList_storeN info39s rfl (.tmp 8) (.tmp 51) rfl rfl w.heap.size rfl [_, _, _, _, _] rfl rfl HC6.out.th (by simp [Value.oneCell']) ?_; intro wf g1 g2 g3 g4 g5)
    refine bodyPost_ret (ret_cell (cs := [_, _, _, _, _]) Tryz.results288 Tryz.underlying202 rfl info39s _ _ w.heap.size rfl g1) rfl ?_
    rw [HW.out]
    have hL := HL.out
    refine ⟨HC6.out.mv.low g3 (Nat.le_refl _), ⟨.mk 5 0 s l q, _, rfl, ⟨_, rfl, (HC6.out.own.exs.same fun b h => g4 b ?_).more fun b h => ⟨?_, ?_⟩⟩, fun a r h => ?_⟩, ?_⟩
    ·have : L + 1 ≤ b := h.1
     omega
    ·have : L + 1 ≤ b := h.1
     omega
    ·have : b < w6.heap.size := h.2
     omega
    ·cases hx : mustR S.z [41] σ with
     | bad c0 p0 => rw [hx] at h; cases h
     | ok u0 r0 => rw [hx] at h; injection h
    ·have hu : ∀ (x : Res Unit), ((x.bind fun _ ts => Res.ok l ts).bind fun l r => .ok (Ex.mk 5 0 s l q) r).unit = x := fun x => by cases x <;> rfl
     rw [hu]
     exact HC6.out.st.other HR.out g4
   | ok u1 ts1 =>
    obtain ⟨i, hi, hg⟩ := HC.out.st
    obtain ⟨_, _, c2, _, _⟩ := hg.cells
    rw [show ((0 : Nat) : Int) = 0 from rfl] at c2
    clear hi hg
    have K := Lib.hid (ris R S _ [41] ⟨#[41]⟩ wr HC.out.st (by kernel_rfl) (by unfold Byn; decide))
    cases hb : isR S.z [41] (.ok u1 ts1) with
    | true =>
     have HX : Hid (∀ u ts, (Res.ok u1 ts1 : Res Unit) = .ok u ts → seesT S.z [[41]] ts = true) := fun u ts h => by injection h with _ h; rw [← h]; exact hb
     rw [hb] at K
     clear hb
     go_wp2_with fail
     (with_reducible refine K.out.mono ?_)
     clear K
     rintro x w5 ⟨rfl, h1⟩
     have HC' := Lib.hid (HC.out.moves HR.out HL.out (Moves.of_below h1 (Nat.le_refl _)) (HC.out.st.below h1 (Nat.le_refl _)) HC.out.sm)
     clear h1 HC c2
     rename Hid (NmC R S w L s q l _ _ w5) => HC
     generalize (Res.ok u1 ts1 : Res Unit) = σ at *
     have K := Lib.hid (rmust R S σ [41] ⟨#[41]⟩ w5 HC.out.st (by kernel_rfl) (by unfold Byn; decide))
     have HW : Hid (m = ((mustR S.z [41] σ).bind fun _ ts => .ok l ts).bind fun l r => .ok (.mk 5 0 s l q) r) := by show _ = _; rw [HM.out, args_exit HX.out]
     go_wp2_with fail
     (with_reducible refine K.out.mono ?_)
     clear K
     rintro x w6 ⟨rfl, h1, h2⟩
     have HC6 := Lib.hid (HC.out.moves HR.out HL.out h1 h2 (pass_sm HC.out.sm))
     clear h1 h2
     obtain ⟨l0, l1, l2, l3, l4⟩ := HC6.out.va.cells
     go_wp2_with (refine wpList_storeN info39s rfl (.tmp 8) (.tmp 51) rfl rfl w.heap.size rfl [_, _, _, _, _] rfl rfl HC6.out.th (by simp [Value.oneCell']) ?_; intro wf g1 g2 g3 g4 g5)
     refine bodyPost_ret (ret_cell (cs := [_, _, _, _, _]) Tryz.results288 Tryz.underlying202 rfl info39s _ _ w.heap.size rfl g1) rfl ?_
     rw [HW.out]
     have hL := HL.out
     refine ⟨HC6.out.mv.low g3 (Nat.le_refl _), ⟨.mk 5 0 s l q, _, rfl, ⟨_, rfl, (HC6.out.own.exs.same fun b h => g4 b ?_).more fun b h => ⟨?_, ?_⟩⟩, fun a r h => ?_⟩, ?_⟩
     ·have : L + 1 ≤ b := h.1
      omega
     ·have : L + 1 ≤ b := h.1
      omega
     ·have : b < w6.heap.size := h.2
      omega
     ·cases hx : mustR S.z [41] σ with
      | bad c0 p0 => rw [hx] at h; cases h
      | ok u0 r0 => rw [hx] at h; injection h
     ·have hu : ∀ (x : Res Unit), ((x.bind fun _ ts => Res.ok l ts).bind fun l r => .ok (Ex.mk 5 0 s l q) r).unit = x := fun x => by cases x <;> rfl
      rw [hu]
      exact HC6.out.st.other HR.out g4
    | false =>
     have HN4 : Hid (seesT S.z [[41]] ts1 = false) := hb
     rw [hb] at K
     clear hb
     go_wp2_with fail
     (with_reducible refine K.out.mono ?_)
     clear K
     rintro x w5 ⟨rfl, h1⟩
     have HC5 := Lib.hid (HC.out.moves HR.out HL.out (Moves.of_below h1 (Nat.le_refl _)) (HC.out.st.below h1 (Nat.le_refl _)) HC.out.sm)
     clear h1 c2
     obtain ⟨l0, l1, l2, l3, l4⟩ := HC5.out.va.cells
     by_cases hl : l = []
     ·obtain ⟨Fx, hFx⟩ : ∃ F : List Tok → Nat, F = fun r => r.length := ⟨_, rfl⟩
      have HMx : Hid (m = ((e ts1).bind fun y r => moreL S.z e (Fx r) (l ++ [y]) r).bind fun l r => .ok (.mk 5 0 s l q) r) := by
       show _ = _
       rw [HM.out]
       show (argsG S.z e f l ts1).bind _ = _
       rw [hFx, hl, args_first HN4.out]
       rfl
      have HMeas : Hid (measR R S wr = 2 * ts1.length + 2) := meas_ok HC.out.st
      have HC8 : Hid (NmC R S w L s q l (.slice A l.length c) (.ok () ts1) w5) := HC5.out
      have HFx : Hid (∀ a r0, e ts1 = .ok a r0 → r0.length ≤ Fx r0) := fun a r0 _ => by rw [hFx]; exact Nat.le_refl _
      have hl0 : l.length = 0 := by rw [hl]; rfl
      obtain ⟨i, hi, hg⟩ := HC8.out.st
      obtain ⟨_, _, c2, _, _⟩ := hg.cells
      rw [show ((0 : Nat) : Int) = 0 from rfl] at c2
      clear hi hg HM HF HC HC5 HN4 hFx hl
      go_upto_region 7 with fail
      have HL0 := Lib.hid hl0
      clear hl0
      go_wp2_with fail
      have HSm : Hid (∀ u0 t0, (e ts1).unit = .ok u0 t0 → l.length + t0.length ≤ 4096) := fun u0 t0 h => by
       cases hx : e ts1 with
       | bad c0 p0 => rw [hx] at h; cases h
       | ok a r0 =>
        rw [hx] at h
        injection h with _ h
        rw [← h]
        have h1 := HT.out _ _ _ hx
        have h2 := HC8.out.sm () ts1 rfl
        omega
      have HSm2 : Hid (∀ {y : Ex} u0 t0, (e ts1).unit = .ok u0 t0 → (l ++ [y]).length + t0.length ≤ 4096) := fun u0 t0 h => by
       cases hx : e ts1 with
       | bad c0 p0 => rw [hx] at h; cases h
       | ok a r0 =>
        rw [hx] at h
        injection h with _ h
        rw [← h]
        have h1 := HT.out _ _ _ hx
        have h2 := HC8.out.sm () ts1 rfl
        simp
        omega
      have HC8d := Lib.hid (HC8.out.moves HR.out HL.out (w' := w5.drew) ⟨rfl, rfl, rfl, Nat.le_refl _, fun _ _ _ => rfl⟩ (HC8.out.st.below ((Below.refl w5.heap.size w5).drew) (Nat.le_refl _)) HC8.out.sm)
      have K0 : Hid (∀ w1, Rs w1 R S (.ok () ts1) → Calls Tryz.prog 150 #[.pointer (some ⟨R, 0, none⟩), .int .i64 ((d : Int) + 1)] w1 (RGot R S (QE w1.heap.size) w1 (e ts1))) := fun w1 h => HE.out _ w1 h
      have hRlo : R < L + 1 := by have := HR.out; have := HL.out; omega
      have hLL : l.length ≤ 4096 := by have := HC8.out.sm () ts1 rfl; omega
      obtain ⟨i0, hi, hz0, hz1, hz2⟩ := info_parts info39
      have hwrap : IntKind.i64.wrap ((d : Int) + 1) = (d : Int) + 1 := IntWalk.i64_in _ (by omega)
      refine wp_region_held_drew (S := fun _ => True) (by kernel_rfl) trivial (fun hHeld => ?_)
      refine wpAnyH_take (i := 0) (v := ?vc0) rfl (by kernel_rfl) (by kernel_rfl) (by kernel_rfl) (fun _ _ _ h => h) (Or.inl ⟨by kernel_rfl, ?yc0⟩) (by assumption) ?rc0
      case yc0 => (intro w hSw; (try dsimp only at hSw); go_simp; (try with_reducible rfl))
      try simp only [Act.put, List.getElem_toArray, List.getElem_cons_zero, List.getElem_cons_succ, List.setIfInBounds_toArray, List.set_cons_zero, List.set_cons_succ]
      refine wpAnyH_take (i := 2) (v := ?vc2) rfl (by kernel_rfl) (by kernel_rfl) (by kernel_rfl) (fun _ _ _ h => h) (Or.inl ⟨by kernel_rfl, ?yc2⟩) (by assumption) ?rc2
      case yc2 => (intro w hSw; (try dsimp only at hSw); go_simp; (try with_reducible rfl))
      try simp only [Act.put, List.getElem_toArray, List.getElem_cons_zero, List.getElem_cons_succ, List.setIfInBounds_toArray, List.set_cons_zero, List.set_cons_succ]
      refine wpAnyH_take (i := 3) (v := ?vc3) rfl (by kernel_rfl) (by kernel_rfl) (by kernel_rfl) (fun _ _ _ h => h) (Or.inl ⟨by kernel_rfl, ?yc3⟩) (by assumption) ?rc3
      case yc3 => (intro w hSw; (try dsimp only at hSw); go_simp; (try with_reducible rfl))
      try simp only [Act.put, List.getElem_toArray, List.getElem_cons_zero, List.getElem_cons_succ, List.setIfInBounds_toArray, List.set_cons_zero, List.set_cons_succ]
      refine wpAnyH_take (i := 4) (v := ?vc4) rfl (by kernel_rfl) (by kernel_rfl) (by kernel_rfl) (fun _ _ _ h => h) (Or.inl ⟨by kernel_rfl, ?yc4⟩) (by assumption) ?rc4
      case yc4 => (intro w hSw; (try dsimp only at hSw); go_simp; (try with_reducible rfl))
      try simp only [Act.put, List.getElem_toArray, List.getElem_cons_zero, List.getElem_cons_succ, List.setIfInBounds_toArray, List.set_cons_zero, List.set_cons_succ]
      generalize w5.drew = wd at *
      refine wpAnyH_ready (rs := [1, 5]) (by kernel_rfl) (by simp) ?_
      refine AllReadyH.cons rfl (fun K hK => ?_) (AllReadyH.cons rfl (fun K hK => ?_) AllReadyH.nil)
      ·have hce := HC8d.out.va.cells.2.2.2.1
       go_simp
       clear hce
       refine hK.out _ _ trivial (fun hHeld => ?_)
       clear hK K
       refine wpAnyH_ready (rs := [5]) (by kernel_rfl) (by simp) ?_
       refine AllReadyH.cons rfl (fun K hK => ?_) AllReadyH.nil
       go_simp
       (try simp only [hwrap])
       with_reducible refine (K0.out wd HC8d.out.st).mono ?_
       rintro x wc2 ⟨hm, ⟨v, xv, rfl, hq, hv⟩, r2⟩
       obtain ⟨kk, rfl, hk, hk1⟩ := exV_cells hq
       obtain ⟨Ak, ck, rfl⟩ := exsC_slice hk
       have C2 := Lib.hid (HC8d.out.moves HR.out HL.out hm r2 HSm.out)
       have Y2 := Lib.hid (HC8d.out.apart hk)
       have HV := Lib.hid hv
       clear hm r2 hk hq hk1 hv
       refine hK.out _ _ trivial (fun hHeld => ?_)
       clear hK K
       refine wpAnyH_ready (rs := [6]) (by kernel_rfl) (by simp) ?_
       refine AllReadyH.cons rfl (fun K hK => ?_) AllReadyH.nil
       go_simp
       have mz := Moves.of_below (R := R) (below_alloc wc2 (exO v (.slice Ak v.kids.length ck))) (Nat.le_refl _)
       have C3 := Lib.hid (C2.out.moves HR.out HL.out mz (C2.out.st.below (below_alloc wc2 (exO v (.slice Ak v.kids.length ck))) (Nat.le_refl _)) HSm.out)
       have Z3 := Lib.hid (heap_alloc_new wc2 (exO v (.slice Ak v.kids.length ck)))
       have Y3 := Lib.hid (Y2.out.moves mz hRlo)
       clear mz
       generalize wc2.alloc (exO v (.slice Ak v.kids.length ck)) = wb3 at *
       refine hK.out _ _ trivial (fun hHeld => ?_)
       clear hK K
       obtain ⟨ks, hks, hown, hkid⟩ := C3.out.own
       have HO := Lib.hid hown
       have HKd := Lib.hid hkid
       clear hown hkid
       have HNw : Hid (∀ (j : Nat) (u : Value), (exC v (.slice Ak v.kids.length ck))[j]? = some u → wb3.cell? ((Addr.mk (wc2.heap.size) 0 none).add j) = some u) := fun j u hu => by
        rw [Addr.add_mid]
        exact range_of (cs := (exC v (.slice Ak v.kids.length ck))) Z3.out j u hu
       refine wpAnyH_ready (rs := [7]) (by kernel_rfl) (by simp) ?_
       refine AllReadyH.cons rfl (fun K hK => ?_) AllReadyH.nil
       rw [if_pos (by rfl)]
       refine wp_append_one _ (.tmp 41) (.tmp 46) 143 rfl (L + 1) 202 i0 _ 5 64 Tryz.underlying143 hi hz0 hz1 hz2 rfl (by omega) _ _ _ rfl HO.out ⟨wc2.heap.size, 0, none⟩ 1 (exC v (.slice Ak v.kids.length ck)) rfl rfl HNw.out one5 (by omega) (by unfold maxLen; omega) C3.out.lo ?_
       intro v' w' ho hg hvv
       obtain ⟨A', c', hA'⟩ := own_shape ho
       subst hA'
       have M4 := Lib.hid (C3.out.more HR.out HL.out hks HKd.out HO.out ho hg hvv Y3.out HSm2.out)
       have hcL := ((C3.out.va.of ((OwnE.grown hks HKd.out HO.out ho hg hvv Y3.out C3.out.lo).2.block L (by omega))))
       have hce := hcL.cells.2.2.2.1
       have hcf := (hcL.2 3 (by omega)).2
       simp only [Nat.zero_add] at hcf
       clear ho hg hvv HO HKd HNw hcL
       refine hK.out _ _ trivial (fun hHeld => ?_)
       clear hK K
       simp only [Act.put, List.setIfInBounds_toArray, List.set_cons_zero, List.set_cons_succ]
       refine wpAnyH_take (i := 8) (v := ?vct4) rfl (by kernel_rfl) (by kernel_rfl) (by kernel_rfl) (fun _ _ _ h => h) (Or.inl ⟨by kernel_rfl, ?yct4⟩) (by assumption) ?rct4
       case yct4 => (intro w hSw; (try dsimp only at hSw); go_simp; (try with_reducible rfl))
       try simp only [Act.put, List.getElem_toArray, List.getElem_cons_zero, List.getElem_cons_succ, List.setIfInBounds_toArray, List.set_cons_zero, List.set_cons_succ]
       refine wpAnyH_ready (rs := [9]) (by kernel_rfl) (by simp) ?_
       refine AllReadyH.cons rfl (fun K hK => ?_) AllReadyH.nil
       go_simp
       refine hK.out _ _ trivial (fun hHeld => ?_)
       clear hK K hce hcf
       generalize w'.setCell ⟨L, 3, none⟩ (.slice A' (l.length + 1) c') = wz at *
       refine wpAnyH_done (by kernel_rfl) ?_ _
       go_wp2
       go_roundw
       case rel =>
        have hst := M4.out
        cases hx : e ts1 with
        | bad c0 p0 =>
         rw [hx] at hst
         refine ⟨l ++ [v], A', c', .bad c0 p0, 0, by rw [show (l ++ [v]).length = l.length + 1 by simp]; exact hst, fun u0 t0 h => (by cases h), ?_⟩
         rw [HMx.out, hx]
         rfl
        | ok a r0 =>
         rw [hx] at hst
         refine ⟨l ++ [v], A', c', .ok () r0, Fx r0, by rw [show (l ++ [v]).length = l.length + 1 by simp]; exact hst, fun u0 t0 h => ?_, ?_⟩
         ·injection h with _ h
          rw [← h]
          exact HFx.out a r0 hx
         ·rw [HMx.out, hx, HV.out a r0 hx]
          show _ = (argsG S.z e (Fx r0) (l ++ [a]) r0).bind _
          rw [args_bind]
          rfl
       case measure =>
        have hst := M4.out.st
        have hmm := HMeas.out
        cases hx : e ts1 with
        | bad c0 p0 =>
         rw [hx] at hst
         rw [meas_bad hst]
         omega
        | ok a r0 =>
         rw [hx] at hst
         rw [meas_ok hst]
         have := HT.out _ _ _ hx
         omega
      ·go_simp
       (try simp only [hwrap])
       with_reducible refine (K0.out wd HC8d.out.st).mono ?_
       rintro x wc5 ⟨hm, ⟨v, xv, rfl, hq, hv⟩, r2⟩
       obtain ⟨kk, rfl, hk, hk1⟩ := exV_cells hq
       obtain ⟨Ak, ck, rfl⟩ := exsC_slice hk
       have C5 := Lib.hid (HC8d.out.moves HR.out HL.out hm r2 HSm.out)
       have Y5 := Lib.hid (HC8d.out.apart hk)
       have HV := Lib.hid hv
       clear hm r2 hk hq hk1 hv
       refine hK.out _ _ trivial (fun hHeld => ?_)
       clear hK K
       refine wpAnyH_ready (rs := [1, 6]) (by kernel_rfl) (by simp) ?_
       refine AllReadyH.cons rfl (fun K hK => ?_) (AllReadyH.cons rfl (fun K hK => ?_) AllReadyH.nil)
       ·have hce := C5.out.va.cells.2.2.2.1
        go_simp
        clear hce
        refine hK.out _ _ trivial (fun hHeld => ?_)
        clear hK K
        refine wpAnyH_ready (rs := [6]) (by kernel_rfl) (by simp) ?_
        refine AllReadyH.cons rfl (fun K hK => ?_) AllReadyH.nil
        go_simp
        have mz := Moves.of_below (R := R) (below_alloc wc5 (exO v (.slice Ak v.kids.length ck))) (Nat.le_refl _)
        have C7 := Lib.hid (C5.out.moves HR.out HL.out mz (C5.out.st.below (below_alloc wc5 (exO v (.slice Ak v.kids.length ck))) (Nat.le_refl _)) HSm.out)
        have Z7 := Lib.hid (heap_alloc_new wc5 (exO v (.slice Ak v.kids.length ck)))
        have Y7 := Lib.hid (Y5.out.moves mz hRlo)
        clear mz
        generalize wc5.alloc (exO v (.slice Ak v.kids.length ck)) = wb7 at *
        refine hK.out _ _ trivial (fun hHeld => ?_)
        clear hK K
        obtain ⟨ks, hks, hown, hkid⟩ := C7.out.own
        have HO := Lib.hid hown
        have HKd := Lib.hid hkid
        clear hown hkid
        have HNw : Hid (∀ (j : Nat) (u : Value), (exC v (.slice Ak v.kids.length ck))[j]? = some u → wb7.cell? ((Addr.mk (wc5.heap.size) 0 none).add j) = some u) := fun j u hu => by
         rw [Addr.add_mid]
         exact range_of (cs := (exC v (.slice Ak v.kids.length ck))) Z7.out j u hu
        refine wpAnyH_ready (rs := [7]) (by kernel_rfl) (by simp) ?_
        refine AllReadyH.cons rfl (fun K hK => ?_) AllReadyH.nil
        rw [if_pos (by rfl)]
        refine wp_append_one _ (.tmp 41) (.tmp 46) 143 rfl (L + 1) 202 i0 _ 5 64 Tryz.underlying143 hi hz0 hz1 hz2 rfl (by omega) _ _ _ rfl HO.out ⟨wc5.heap.size, 0, none⟩ 1 (exC v (.slice Ak v.kids.length ck)) rfl rfl HNw.out one5 (by omega) (by unfold maxLen; omega) C7.out.lo ?_
        intro v' w' ho hg hvv
        obtain ⟨A', c', hA'⟩ := own_shape ho
        subst hA'
        have M8 := Lib.hid (C7.out.more HR.out HL.out hks HKd.out HO.out ho hg hvv Y7.out HSm2.out)
        have hcL := ((C7.out.va.of ((OwnE.grown hks HKd.out HO.out ho hg hvv Y7.out C7.out.lo).2.block L (by omega))))
        have hce := hcL.cells.2.2.2.1
        have hcf := (hcL.2 3 (by omega)).2
        simp only [Nat.zero_add] at hcf
        clear ho hg hvv HO HKd HNw hcL
        refine hK.out _ _ trivial (fun hHeld => ?_)
        clear hK K
        simp only [Act.put, List.setIfInBounds_toArray, List.set_cons_zero, List.set_cons_succ]
        refine wpAnyH_take (i := 8) (v := ?vct8) rfl (by kernel_rfl) (by kernel_rfl) (by kernel_rfl) (fun _ _ _ h => h) (Or.inl ⟨by kernel_rfl, ?yct8⟩) (by assumption) ?rct8
        case yct8 => (intro w hSw; (try dsimp only at hSw); go_simp; (try with_reducible rfl))
        try simp only [Act.put, List.getElem_toArray, List.getElem_cons_zero, List.getElem_cons_succ, List.setIfInBounds_toArray, List.set_cons_zero, List.set_cons_succ]
        refine wpAnyH_ready (rs := [9]) (by kernel_rfl) (by simp) ?_
        refine AllReadyH.cons rfl (fun K hK => ?_) AllReadyH.nil
        go_simp
        refine hK.out _ _ trivial (fun hHeld => ?_)
        clear hK K hce hcf
        generalize w'.setCell ⟨L, 3, none⟩ (.slice A' (l.length + 1) c') = wz at *
        refine wpAnyH_done (by kernel_rfl) ?_ _
        go_wp2
        go_roundw
        case rel =>
         have hst := M8.out
         cases hx : e ts1 with
         | bad c0 p0 =>
          rw [hx] at hst
          refine ⟨l ++ [v], A', c', .bad c0 p0, 0, by rw [show (l ++ [v]).length = l.length + 1 by simp]; exact hst, fun u0 t0 h => (by cases h), ?_⟩
          rw [HMx.out, hx]
          rfl
         | ok a r0 =>
          rw [hx] at hst
          refine ⟨l ++ [v], A', c', .ok () r0, Fx r0, by rw [show (l ++ [v]).length = l.length + 1 by simp]; exact hst, fun u0 t0 h => ?_, ?_⟩
          ·injection h with _ h
           rw [← h]
           exact HFx.out a r0 hx
          ·rw [HMx.out, hx, HV.out a r0 hx]
           show _ = (argsG S.z e (Fx r0) (l ++ [a]) r0).bind _
           rw [args_bind]
           rfl
        case measure =>
         have hst := M8.out.st
         have hmm := HMeas.out
         cases hx : e ts1 with
         | bad c0 p0 =>
          rw [hx] at hst
          rw [meas_bad hst]
          omega
         | ok a r0 =>
          rw [hx] at hst
          rw [meas_ok hst]
          have := HT.out _ _ _ hx
          omega
       ·go_simp
        have mz := Moves.of_below (R := R) (below_alloc wc5 (exO v (.slice Ak v.kids.length ck))) (Nat.le_refl _)
        have C9 := Lib.hid (C5.out.moves HR.out HL.out mz (C5.out.st.below (below_alloc wc5 (exO v (.slice Ak v.kids.length ck))) (Nat.le_refl _)) HSm.out)
        have Z9 := Lib.hid (heap_alloc_new wc5 (exO v (.slice Ak v.kids.length ck)))
        have Y9 := Lib.hid (Y5.out.moves mz hRlo)
        clear mz
        generalize wc5.alloc (exO v (.slice Ak v.kids.length ck)) = wb9 at *
        refine hK.out _ _ trivial (fun hHeld => ?_)
        clear hK K
        refine wpAnyH_ready (rs := [1]) (by kernel_rfl) (by simp) ?_
        refine AllReadyH.cons rfl (fun K hK => ?_) AllReadyH.nil
        have hce := C9.out.va.cells.2.2.2.1
        go_simp
        clear hce
        refine hK.out _ _ trivial (fun hHeld => ?_)
        clear hK K
        obtain ⟨ks, hks, hown, hkid⟩ := C9.out.own
        have HO := Lib.hid hown
        have HKd := Lib.hid hkid
        clear hown hkid
        have HNw : Hid (∀ (j : Nat) (u : Value), (exC v (.slice Ak v.kids.length ck))[j]? = some u → wb9.cell? ((Addr.mk (wc5.heap.size) 0 none).add j) = some u) := fun j u hu => by
         rw [Addr.add_mid]
         exact range_of (cs := (exC v (.slice Ak v.kids.length ck))) Z9.out j u hu
        refine wpAnyH_ready (rs := [7]) (by kernel_rfl) (by simp) ?_
        refine AllReadyH.cons rfl (fun K hK => ?_) AllReadyH.nil
        rw [if_pos (by rfl)]
        refine wp_append_one _ (.tmp 41) (.tmp 46) 143 rfl (L + 1) 202 i0 _ 5 64 Tryz.underlying143 hi hz0 hz1 hz2 rfl (by omega) _ _ _ rfl HO.out ⟨wc5.heap.size, 0, none⟩ 1 (exC v (.slice Ak v.kids.length ck)) rfl rfl HNw.out one5 (by omega) (by unfold maxLen; omega) C9.out.lo ?_
        intro v' w' ho hg hvv
        obtain ⟨A', c', hA'⟩ := own_shape ho
        subst hA'
        have M11 := Lib.hid (C9.out.more HR.out HL.out hks HKd.out HO.out ho hg hvv Y9.out HSm2.out)
        have hcL := ((C9.out.va.of ((OwnE.grown hks HKd.out HO.out ho hg hvv Y9.out C9.out.lo).2.block L (by omega))))
        have hce := hcL.cells.2.2.2.1
        have hcf := (hcL.2 3 (by omega)).2
        simp only [Nat.zero_add] at hcf
        clear ho hg hvv HO HKd HNw hcL
        refine hK.out _ _ trivial (fun hHeld => ?_)
        clear hK K
        simp only [Act.put, List.setIfInBounds_toArray, List.set_cons_zero, List.set_cons_succ]
        refine wpAnyH_take (i := 8) (v := ?vct11) rfl (by kernel_rfl) (by kernel_rfl) (by kernel_rfl) (fun _ _ _ h => h) (Or.inl ⟨by kernel_rfl, ?yct11⟩) (by assumption) ?rct11
        case yct11 => (intro w hSw; (try dsimp only at hSw); go_simp; (try with_reducible rfl))
        try simp only [Act.put, List.getElem_toArray, List.getElem_cons_zero, List.getElem_cons_succ, List.setIfInBounds_toArray, List.set_cons_zero, List.set_cons_succ]
        refine wpAnyH_ready (rs := [9]) (by kernel_rfl) (by simp) ?_
        refine AllReadyH.cons rfl (fun K hK => ?_) AllReadyH.nil
        go_simp
        refine hK.out _ _ trivial (fun hHeld => ?_)
        clear hK K hce hcf
        generalize w'.setCell ⟨L, 3, none⟩ (.slice A' (l.length + 1) c') = wz at *
        refine wpAnyH_done (by kernel_rfl) ?_ _
        go_wp2
        go_roundw
        case rel =>
         have hst := M11.out
         cases hx : e ts1 with
         | bad c0 p0 =>
          rw [hx] at hst
          refine ⟨l ++ [v], A', c', .bad c0 p0, 0, by rw [show (l ++ [v]).length = l.length + 1 by simp]; exact hst, fun u0 t0 h => (by cases h), ?_⟩
          rw [HMx.out, hx]
          rfl
         | ok a r0 =>
          rw [hx] at hst
          refine ⟨l ++ [v], A', c', .ok () r0, Fx r0, by rw [show (l ++ [v]).length = l.length + 1 by simp]; exact hst, fun u0 t0 h => ?_, ?_⟩
          ·injection h with _ h
           rw [← h]
           exact HFx.out a r0 hx
          ·rw [HMx.out, hx, HV.out a r0 hx]
           show _ = (argsG S.z e (Fx r0) (l ++ [a]) r0).bind _
           rw [args_bind]
           rfl
        case measure =>
         have hst := M11.out.st
         have hmm := HMeas.out
         cases hx : e ts1 with
         | bad c0 p0 =>
          rw [hx] at hst
          rw [meas_bad hst]
          omega
         | ok a r0 =>
          rw [hx] at hst
          rw [meas_ok hst]
          have := HT.out _ _ _ hx
          omega
     ·have hlp : 0 < l.length := List.length_pos_iff.2 hl
      have HNl := Lib.hid hl
      have K := Lib.hid (rmust R S _ [44] ⟨#[44]⟩ w5 HC5.out.st (by kernel_rfl) (by unfold Byn; decide))
      clear hl
      cases hb4 : isR S.z [44] (.ok u1 ts1) with
      | false =>
       have HE4 : Hid (mustR S.z [44] (.ok u1 ts1) = failT S.z 41 ts1) := by show wantT S.z [44] ts1 = _; unfold wantT; rw [if_neg (by simp [show seesT S.z [[44]] ts1 = false from hb4])]
       have HM4 : Hid (m = .bad 41 (peekT S.z ts1).place) := by
        show _ = _
        rw [HM.out]
        show (argsG S.z e f l ts1).bind _ = _
        rw [args_stop HNl.out HN4.out hb4]
        rfl
       have HMeas : Hid (measR R S wr = 2 * ts1.length + 2) := meas_ok HC.out.st
       rw [HE4.out] at K
       clear hb4
       go_wp2_with fail
       (with_reducible refine K.out.mono ?_)
       clear K
       rintro x w6 ⟨rfl, h1, h2⟩
       have HC6 := Lib.hid (HC5.out.moves HR.out HL.out h1 h2 (fun u0 t0 h => by cases h))
       obtain ⟨hne, i, hg⟩ := h2
       obtain ⟨_, _, c2, _, _⟩ := hg.cells
       have q1 : (((41 : Nat) : Int) == 0) = false := by decide
       clear hne hg h1 l0 l1 l2 l3 l4
       go_wp2
       go_roundw
       case rel =>
        refine ⟨l, A, c, .bad 41 (peekT S.z ts1).place, 0, HC6.out, fun u0 t0 h => (by cases h), ?_⟩
        rw [HM4.out]
        rfl
       case measure =>
        have := HMeas.out
        have := meas_bad HC6.out.st
        omega
      | true =>
       have hcons := sees_cons (show seesT S.z [[44]] ts1 = true from hb4)
       have hle := HF.out u1 ts1 rfl
       obtain ⟨f', rfl⟩ : ∃ f', f = f' + 1 := ⟨f - 1, by omega⟩
       have HE4 : Hid (mustR S.z [44] (.ok u1 ts1) = .ok () ts1.tail) := by show wantT S.z [44] ts1 = _; unfold wantT; rw [if_pos (show seesT S.z [[44]] ts1 = true from hb4)]
       have HMx : Hid (m = ((e ts1.tail).bind fun y r => moreL S.z e f' (l ++ [y]) r).bind fun l r => .ok (.mk 5 0 s l q) r) := by
        show _ = _
        rw [HM.out]
        show (argsG S.z e (f' + 1) l ts1).bind _ = _
        rw [args_more HNl.out hb4]
       have HMeas : Hid (2 * ts1.tail.length + 2 ≤ measR R S wr) := by have := meas_ok HC.out.st; show _ ≤ _; omega
       have hsm1 := HC5.out.sm u1 ts1 rfl
       have HSm0 : Hid (∀ u0 t0, (Res.ok () ts1.tail : Res Unit) = .ok u0 t0 → l.length + t0.length ≤ 4096) := fun u0 t0 h => by injection h with _ h; rw [← h]; omega
       obtain ⟨Fx, hFx⟩ : ∃ F : List Tok → Nat, F = fun _ => f' := ⟨_, rfl⟩
       have HFx : Hid (∀ a r0, e ts1.tail = .ok a r0 → r0.length ≤ Fx r0) := fun a r0 h => by rw [hFx]; have := HT.out _ _ _ h; show r0.length ≤ f'; omega
       rw [show (fun (y : Ex) (r : List Tok) => moreL S.z e f' (l ++ [y]) r) = fun y r => moreL S.z e (Fx r) (l ++ [y]) r by rw [hFx]] at HMx
       rw [HE4.out] at K
       clear hb4 hcons hle hsm1 hFx HE4 HF HM HN4
       generalize ts1.tail = tsx at *
       go_wp2_with fail
       (with_reducible refine K.out.mono ?_)
       clear K
       rintro x w6 ⟨rfl, h1, h2⟩
       have HC8 := Lib.hid (HC5.out.moves HR.out HL.out h1 h2 HSm0.out)
       obtain ⟨i, hi, hg⟩ := h2
       obtain ⟨_, _, c2, _, _⟩ := hg.cells
       rw [show ((0 : Nat) : Int) = 0 from rfl] at c2
       clear hi hg h1 HC5 HC HSm0 l0 l1 l2 l3 l4
       obtain ⟨l0, l1, l2, l3, l4⟩ := HC8.out.va.cells
       go_wp2_with fail
       have HSm : Hid (∀ u0 t0, (e tsx).unit = .ok u0 t0 → l.length + t0.length ≤ 4096) := fun u0 t0 h => by
        cases hx : e tsx with
        | bad c0 p0 => rw [hx] at h; cases h
        | ok a r0 =>
         rw [hx] at h
         injection h with _ h
         rw [← h]
         have h1 := HT.out _ _ _ hx
         have h2 := HC8.out.sm () tsx rfl
         omega
       have HSm2 : Hid (∀ {y : Ex} u0 t0, (e tsx).unit = .ok u0 t0 → (l ++ [y]).length + t0.length ≤ 4096) := fun u0 t0 h => by
        cases hx : e tsx with
        | bad c0 p0 => rw [hx] at h; cases h
        | ok a r0 =>
         rw [hx] at h
         injection h with _ h
         rw [← h]
         have h1 := HT.out _ _ _ hx
         have h2 := HC8.out.sm () tsx rfl
         simp
         omega
       have HC8d := Lib.hid (HC8.out.moves HR.out HL.out (w' := w6.drew) ⟨rfl, rfl, rfl, Nat.le_refl _, fun _ _ _ => rfl⟩ (HC8.out.st.below ((Below.refl w6.heap.size w6).drew) (Nat.le_refl _)) HC8.out.sm)
       have K0 : Hid (∀ w1, Rs w1 R S (.ok () tsx) → Calls Tryz.prog 150 #[.pointer (some ⟨R, 0, none⟩), .int .i64 ((d : Int) + 1)] w1 (RGot R S (QE w1.heap.size) w1 (e tsx))) := fun w1 h => HE.out _ w1 h
       have hRlo : R < L + 1 := by have := HR.out; have := HL.out; omega
       have hLL : l.length ≤ 4096 := by have := HC8.out.sm () tsx rfl; omega
       obtain ⟨i0, hi, hz0, hz1, hz2⟩ := info_parts info39
       have hwrap : IntKind.i64.wrap ((d : Int) + 1) = (d : Int) + 1 := IntWalk.i64_in _ (by omega)
       refine wp_region_held_drew (S := fun _ => True) (by kernel_rfl) trivial (fun hHeld => ?_)
       refine wpAnyH_take (i := 0) (v := ?vd0) rfl (by kernel_rfl) (by kernel_rfl) (by kernel_rfl) (fun _ _ _ h => h) (Or.inl ⟨by kernel_rfl, ?yd0⟩) (by assumption) ?rd0
       case yd0 => (intro w hSw; (try dsimp only at hSw); go_simp; (try with_reducible rfl))
       try simp only [Act.put, List.getElem_toArray, List.getElem_cons_zero, List.getElem_cons_succ, List.setIfInBounds_toArray, List.set_cons_zero, List.set_cons_succ]
       refine wpAnyH_take (i := 2) (v := ?vd2) rfl (by kernel_rfl) (by kernel_rfl) (by kernel_rfl) (fun _ _ _ h => h) (Or.inl ⟨by kernel_rfl, ?yd2⟩) (by assumption) ?rd2
       case yd2 => (intro w hSw; (try dsimp only at hSw); go_simp; (try with_reducible rfl))
       try simp only [Act.put, List.getElem_toArray, List.getElem_cons_zero, List.getElem_cons_succ, List.setIfInBounds_toArray, List.set_cons_zero, List.set_cons_succ]
       refine wpAnyH_take (i := 3) (v := ?vd3) rfl (by kernel_rfl) (by kernel_rfl) (by kernel_rfl) (fun _ _ _ h => h) (Or.inl ⟨by kernel_rfl, ?yd3⟩) (by assumption) ?rd3
       case yd3 => (intro w hSw; (try dsimp only at hSw); go_simp; (try with_reducible rfl))
       try simp only [Act.put, List.getElem_toArray, List.getElem_cons_zero, List.getElem_cons_succ, List.setIfInBounds_toArray, List.set_cons_zero, List.set_cons_succ]
       refine wpAnyH_take (i := 4) (v := ?vd4) rfl (by kernel_rfl) (by kernel_rfl) (by kernel_rfl) (fun _ _ _ h => h) (Or.inl ⟨by kernel_rfl, ?yd4⟩) (by assumption) ?rd4
       case yd4 => (intro w hSw; (try dsimp only at hSw); go_simp; (try with_reducible rfl))
       try simp only [Act.put, List.getElem_toArray, List.getElem_cons_zero, List.getElem_cons_succ, List.setIfInBounds_toArray, List.set_cons_zero, List.set_cons_succ]
       generalize w6.drew = wd at *
       refine wpAnyH_ready (rs := [1, 5]) (by kernel_rfl) (by simp) ?_
       refine AllReadyH.cons rfl (fun K hK => ?_) (AllReadyH.cons rfl (fun K hK => ?_) AllReadyH.nil)
       ·have hce := HC8d.out.va.cells.2.2.2.1
        go_simp
        clear hce
        refine hK.out _ _ trivial (fun hHeld => ?_)
        clear hK K
        refine wpAnyH_ready (rs := [5]) (by kernel_rfl) (by simp) ?_
        refine AllReadyH.cons rfl (fun K hK => ?_) AllReadyH.nil
        go_simp
        (try simp only [hwrap])
        with_reducible refine (K0.out wd HC8d.out.st).mono ?_
        rintro x wc13 ⟨hm, ⟨v, xv, rfl, hq, hv⟩, r2⟩
        obtain ⟨kk, rfl, hk, hk1⟩ := exV_cells hq
        obtain ⟨Ak, ck, rfl⟩ := exsC_slice hk
        have C13 := Lib.hid (HC8d.out.moves HR.out HL.out hm r2 HSm.out)
        have Y13 := Lib.hid (HC8d.out.apart hk)
        have HV := Lib.hid hv
        clear hm r2 hk hq hk1 hv
        refine hK.out _ _ trivial (fun hHeld => ?_)
        clear hK K
        refine wpAnyH_ready (rs := [6]) (by kernel_rfl) (by simp) ?_
        refine AllReadyH.cons rfl (fun K hK => ?_) AllReadyH.nil
        go_simp
        have mz := Moves.of_below (R := R) (below_alloc wc13 (exO v (.slice Ak v.kids.length ck))) (Nat.le_refl _)
        have C14 := Lib.hid (C13.out.moves HR.out HL.out mz (C13.out.st.below (below_alloc wc13 (exO v (.slice Ak v.kids.length ck))) (Nat.le_refl _)) HSm.out)
        have Z14 := Lib.hid (heap_alloc_new wc13 (exO v (.slice Ak v.kids.length ck)))
        have Y14 := Lib.hid (Y13.out.moves mz hRlo)
        clear mz
        generalize wc13.alloc (exO v (.slice Ak v.kids.length ck)) = wb14 at *
        refine hK.out _ _ trivial (fun hHeld => ?_)
        clear hK K
        obtain ⟨ks, hks, hown, hkid⟩ := C14.out.own
        have HO := Lib.hid hown
        have HKd := Lib.hid hkid
        clear hown hkid
        have HNw : Hid (∀ (j : Nat) (u : Value), (exC v (.slice Ak v.kids.length ck))[j]? = some u → wb14.cell? ((Addr.mk (wc13.heap.size) 0 none).add j) = some u) := fun j u hu => by
         rw [Addr.add_mid]
         exact range_of (cs := (exC v (.slice Ak v.kids.length ck))) Z14.out j u hu
        refine wpAnyH_ready (rs := [7]) (by kernel_rfl) (by simp) ?_
        refine AllReadyH.cons rfl (fun K hK => ?_) AllReadyH.nil
        rw [if_pos (by rfl)]
        refine wp_append_one _ (.tmp 41) (.tmp 46) 143 rfl (L + 1) 202 i0 _ 5 64 Tryz.underlying143 hi hz0 hz1 hz2 rfl (by omega) _ _ _ rfl HO.out ⟨wc13.heap.size, 0, none⟩ 1 (exC v (.slice Ak v.kids.length ck)) rfl rfl HNw.out one5 (by omega) (by unfold maxLen; omega) C14.out.lo ?_
        intro v' w' ho hg hvv
        obtain ⟨A', c', hA'⟩ := own_shape ho
        subst hA'
        have M15 := Lib.hid (C14.out.more HR.out HL.out hks HKd.out HO.out ho hg hvv Y14.out HSm2.out)
        have hcL := ((C14.out.va.of ((OwnE.grown hks HKd.out HO.out ho hg hvv Y14.out C14.out.lo).2.block L (by omega))))
        have hce := hcL.cells.2.2.2.1
        have hcf := (hcL.2 3 (by omega)).2
        simp only [Nat.zero_add] at hcf
        clear ho hg hvv HO HKd HNw hcL
        refine hK.out _ _ trivial (fun hHeld => ?_)
        clear hK K
        simp only [Act.put, List.setIfInBounds_toArray, List.set_cons_zero, List.set_cons_succ]
        refine wpAnyH_take (i := 8) (v := ?vdt15) rfl (by kernel_rfl) (by kernel_rfl) (by kernel_rfl) (fun _ _ _ h => h) (Or.inl ⟨by kernel_rfl, ?ydt15⟩) (by assumption) ?rdt15
        case ydt15 => (intro w hSw; (try dsimp only at hSw); go_simp; (try with_reducible rfl))
        try simp only [Act.put, List.getElem_toArray, List.getElem_cons_zero, List.getElem_cons_succ, List.setIfInBounds_toArray, List.set_cons_zero, List.set_cons_succ]
        refine wpAnyH_ready (rs := [9]) (by kernel_rfl) (by simp) ?_
        refine AllReadyH.cons rfl (fun K hK => ?_) AllReadyH.nil
        go_simp
        refine hK.out _ _ trivial (fun hHeld => ?_)
        clear hK K hce hcf
        generalize w'.setCell ⟨L, 3, none⟩ (.slice A' (l.length + 1) c') = wz at *
        refine wpAnyH_done (by kernel_rfl) ?_ _
        go_wp2
        go_roundw
        case rel =>
         have hst := M15.out
         cases hx : e tsx with
         | bad c0 p0 =>
          rw [hx] at hst
          refine ⟨l ++ [v], A', c', .bad c0 p0, 0, by rw [show (l ++ [v]).length = l.length + 1 by simp]; exact hst, fun u0 t0 h => (by cases h), ?_⟩
          rw [HMx.out, hx]
          rfl
         | ok a r0 =>
          rw [hx] at hst
          refine ⟨l ++ [v], A', c', .ok () r0, Fx r0, by rw [show (l ++ [v]).length = l.length + 1 by simp]; exact hst, fun u0 t0 h => ?_, ?_⟩
          ·injection h with _ h
           rw [← h]
           exact HFx.out a r0 hx
          ·rw [HMx.out, hx, HV.out a r0 hx]
           show _ = (argsG S.z e (Fx r0) (l ++ [a]) r0).bind _
           rw [args_bind]
           rfl
        case measure =>
         have hst := M15.out.st
         have hmm := HMeas.out
         cases hx : e tsx with
         | bad c0 p0 =>
          rw [hx] at hst
          rw [meas_bad hst]
          omega
         | ok a r0 =>
          rw [hx] at hst
          rw [meas_ok hst]
          have := HT.out _ _ _ hx
          omega
       ·go_simp
        (try simp only [hwrap])
        with_reducible refine (K0.out wd HC8d.out.st).mono ?_
        rintro x wc16 ⟨hm, ⟨v, xv, rfl, hq, hv⟩, r2⟩
        obtain ⟨kk, rfl, hk, hk1⟩ := exV_cells hq
        obtain ⟨Ak, ck, rfl⟩ := exsC_slice hk
        have C16 := Lib.hid (HC8d.out.moves HR.out HL.out hm r2 HSm.out)
        have Y16 := Lib.hid (HC8d.out.apart hk)
        have HV := Lib.hid hv
        clear hm r2 hk hq hk1 hv
        refine hK.out _ _ trivial (fun hHeld => ?_)
        clear hK K
        refine wpAnyH_ready (rs := [1, 6]) (by kernel_rfl) (by simp) ?_
        refine AllReadyH.cons rfl (fun K hK => ?_) (AllReadyH.cons rfl (fun K hK => ?_) AllReadyH.nil)
        ·have hce := C16.out.va.cells.2.2.2.1
         go_simp
         clear hce
         refine hK.out _ _ trivial (fun hHeld => ?_)
         clear hK K
         refine wpAnyH_ready (rs := [6]) (by kernel_rfl) (by simp) ?_
         refine AllReadyH.cons rfl (fun K hK => ?_) AllReadyH.nil
         go_simp
         have mz := Moves.of_below (R := R) (below_alloc wc16 (exO v (.slice Ak v.kids.length ck))) (Nat.le_refl _)
         have C18 := Lib.hid (C16.out.moves HR.out HL.out mz (C16.out.st.below (below_alloc wc16 (exO v (.slice Ak v.kids.length ck))) (Nat.le_refl _)) HSm.out)
         have Z18 := Lib.hid (heap_alloc_new wc16 (exO v (.slice Ak v.kids.length ck)))
         have Y18 := Lib.hid (Y16.out.moves mz hRlo)
         clear mz
         generalize wc16.alloc (exO v (.slice Ak v.kids.length ck)) = wb18 at *
         refine hK.out _ _ trivial (fun hHeld => ?_)
         clear hK K
         obtain ⟨ks, hks, hown, hkid⟩ := C18.out.own
         have HO := Lib.hid hown
         have HKd := Lib.hid hkid
         clear hown hkid
         have HNw : Hid (∀ (j : Nat) (u : Value), (exC v (.slice Ak v.kids.length ck))[j]? = some u → wb18.cell? ((Addr.mk (wc16.heap.size) 0 none).add j) = some u) := fun j u hu => by
          rw [Addr.add_mid]
          exact range_of (cs := (exC v (.slice Ak v.kids.length ck))) Z18.out j u hu
         refine wpAnyH_ready (rs := [7]) (by kernel_rfl) (by simp) ?_
         refine AllReadyH.cons rfl (fun K hK => ?_) AllReadyH.nil
         rw [if_pos (by rfl)]
         refine wp_append_one _ (.tmp 41) (.tmp 46) 143 rfl (L + 1) 202 i0 _ 5 64 Tryz.underlying143 hi hz0 hz1 hz2 rfl (by omega) _ _ _ rfl HO.out ⟨wc16.heap.size, 0, none⟩ 1 (exC v (.slice Ak v.kids.length ck)) rfl rfl HNw.out one5 (by omega) (by unfold maxLen; omega) C18.out.lo ?_
         intro v' w' ho hg hvv
         obtain ⟨A', c', hA'⟩ := own_shape ho
         subst hA'
         have M19 := Lib.hid (C18.out.more HR.out HL.out hks HKd.out HO.out ho hg hvv Y18.out HSm2.out)
         have hcL := ((C18.out.va.of ((OwnE.grown hks HKd.out HO.out ho hg hvv Y18.out C18.out.lo).2.block L (by omega))))
         have hce := hcL.cells.2.2.2.1
         have hcf := (hcL.2 3 (by omega)).2
         simp only [Nat.zero_add] at hcf
         clear ho hg hvv HO HKd HNw hcL
         refine hK.out _ _ trivial (fun hHeld => ?_)
         clear hK K
         simp only [Act.put, List.setIfInBounds_toArray, List.set_cons_zero, List.set_cons_succ]
         refine wpAnyH_take (i := 8) (v := ?vdt19) rfl (by kernel_rfl) (by kernel_rfl) (by kernel_rfl) (fun _ _ _ h => h) (Or.inl ⟨by kernel_rfl, ?ydt19⟩) (by assumption) ?rdt19
         case ydt19 => (intro w hSw; (try dsimp only at hSw); go_simp; (try with_reducible rfl))
         try simp only [Act.put, List.getElem_toArray, List.getElem_cons_zero, List.getElem_cons_succ, List.setIfInBounds_toArray, List.set_cons_zero, List.set_cons_succ]
         refine wpAnyH_ready (rs := [9]) (by kernel_rfl) (by simp) ?_
         refine AllReadyH.cons rfl (fun K hK => ?_) AllReadyH.nil
         go_simp
         refine hK.out _ _ trivial (fun hHeld => ?_)
         clear hK K hce hcf
         generalize w'.setCell ⟨L, 3, none⟩ (.slice A' (l.length + 1) c') = wz at *
         refine wpAnyH_done (by kernel_rfl) ?_ _
         go_wp2
         go_roundw
         case rel =>
          have hst := M19.out
          cases hx : e tsx with
          | bad c0 p0 =>
           rw [hx] at hst
           refine ⟨l ++ [v], A', c', .bad c0 p0, 0, by rw [show (l ++ [v]).length = l.length + 1 by simp]; exact hst, fun u0 t0 h => (by cases h), ?_⟩
           rw [HMx.out, hx]
           rfl
          | ok a r0 =>
           rw [hx] at hst
           refine ⟨l ++ [v], A', c', .ok () r0, Fx r0, by rw [show (l ++ [v]).length = l.length + 1 by simp]; exact hst, fun u0 t0 h => ?_, ?_⟩
           ·injection h with _ h
            rw [← h]
            exact HFx.out a r0 hx
           ·rw [HMx.out, hx, HV.out a r0 hx]
            show _ = (argsG S.z e (Fx r0) (l ++ [a]) r0).bind _
            rw [args_bind]
            rfl
         case measure =>
          have hst := M19.out.st
          have hmm := HMeas.out
          cases hx : e tsx with
          | bad c0 p0 =>
           rw [hx] at hst
           rw [meas_bad hst]
           omega
          | ok a r0 =>
           rw [hx] at hst
           rw [meas_ok hst]
           have := HT.out _ _ _ hx
           omega
        ·go_simp
         have mz := Moves.of_below (R := R) (below_alloc wc16 (exO v (.slice Ak v.kids.length ck))) (Nat.le_refl _)
         have C20 := Lib.hid (C16.out.moves HR.out HL.out mz (C16.out.st.below (below_alloc wc16 (exO v (.slice Ak v.kids.length ck))) (Nat.le_refl _)) HSm.out)
         have Z20 := Lib.hid (heap_alloc_new wc16 (exO v (.slice Ak v.kids.length ck)))
         have Y20 := Lib.hid (Y16.out.moves mz hRlo)
         clear mz
         generalize wc16.alloc (exO v (.slice Ak v.kids.length ck)) = wb20 at *
         refine hK.out _ _ trivial (fun hHeld => ?_)
         clear hK K
         refine wpAnyH_ready (rs := [1]) (by kernel_rfl) (by simp) ?_
         refine AllReadyH.cons rfl (fun K hK => ?_) AllReadyH.nil
         have hce := C20.out.va.cells.2.2.2.1
         go_simp
         clear hce
         refine hK.out _ _ trivial (fun hHeld => ?_)
         clear hK K
         obtain ⟨ks, hks, hown, hkid⟩ := C20.out.own
         have HO := Lib.hid hown
         have HKd := Lib.hid hkid
         clear hown hkid
         have HNw : Hid (∀ (j : Nat) (u : Value), (exC v (.slice Ak v.kids.length ck))[j]? = some u → wb20.cell? ((Addr.mk (wc16.heap.size) 0 none).add j) = some u) := fun j u hu => by
          rw [Addr.add_mid]
          exact range_of (cs := (exC v (.slice Ak v.kids.length ck))) Z20.out j u hu
         refine wpAnyH_ready (rs := [7]) (by kernel_rfl) (by simp) ?_
         refine AllReadyH.cons rfl (fun K hK => ?_) AllReadyH.nil
         rw [if_pos (by rfl)]
         refine wp_append_one _ (.tmp 41) (.tmp 46) 143 rfl (L + 1) 202 i0 _ 5 64 Tryz.underlying143 hi hz0 hz1 hz2 rfl (by omega) _ _ _ rfl HO.out ⟨wc16.heap.size, 0, none⟩ 1 (exC v (.slice Ak v.kids.length ck)) rfl rfl HNw.out one5 (by omega) (by unfold maxLen; omega) C20.out.lo ?_
         intro v' w' ho hg hvv
         obtain ⟨A', c', hA'⟩ := own_shape ho
         subst hA'
         have M22 := Lib.hid (C20.out.more HR.out HL.out hks HKd.out HO.out ho hg hvv Y20.out HSm2.out)
         have hcL := ((C20.out.va.of ((OwnE.grown hks HKd.out HO.out ho hg hvv Y20.out C20.out.lo).2.block L (by omega))))
         have hce := hcL.cells.2.2.2.1
         have hcf := (hcL.2 3 (by omega)).2
         simp only [Nat.zero_add] at hcf
         clear ho hg hvv HO HKd HNw hcL
         refine hK.out _ _ trivial (fun hHeld => ?_)
         clear hK K
         simp only [Act.put, List.setIfInBounds_toArray, List.set_cons_zero, List.set_cons_succ]
         refine wpAnyH_take (i := 8) (v := ?vdt22) rfl (by kernel_rfl) (by kernel_rfl) (by kernel_rfl) (fun _ _ _ h => h) (Or.inl ⟨by kernel_rfl, ?ydt22⟩) (by assumption) ?rdt22
         case ydt22 => (intro w hSw; (try dsimp only at hSw); go_simp; (try with_reducible rfl))
         try simp only [Act.put, List.getElem_toArray, List.getElem_cons_zero, List.getElem_cons_succ, List.setIfInBounds_toArray, List.set_cons_zero, List.set_cons_succ]
         refine wpAnyH_ready (rs := [9]) (by kernel_rfl) (by simp) ?_
         refine AllReadyH.cons rfl (fun K hK => ?_) AllReadyH.nil
         go_simp
         refine hK.out _ _ trivial (fun hHeld => ?_)
         clear hK K hce hcf
         generalize w'.setCell ⟨L, 3, none⟩ (.slice A' (l.length + 1) c') = wz at *
         refine wpAnyH_done (by kernel_rfl) ?_ _
         go_wp2
         go_roundw
         case rel =>
          have hst := M22.out
          cases hx : e tsx with
          | bad c0 p0 =>
           rw [hx] at hst
           refine ⟨l ++ [v], A', c', .bad c0 p0, 0, by rw [show (l ++ [v]).length = l.length + 1 by simp]; exact hst, fun u0 t0 h => (by cases h), ?_⟩
           rw [HMx.out, hx]
           rfl
          | ok a r0 =>
           rw [hx] at hst
           refine ⟨l ++ [v], A', c', .ok () r0, Fx r0, by rw [show (l ++ [v]).length = l.length + 1 by simp]; exact hst, fun u0 t0 h => ?_, ?_⟩
           ·injection h with _ h
            rw [← h]
            exact HFx.out a r0 hx
           ·rw [HMx.out, hx, HV.out a r0 hx]
            show _ = (argsG S.z e (Fx r0) (l ++ [a]) r0).bind _
            rw [args_bind]
            rfl
         case measure =>
          have hst := M22.out.st
          have hmm := HMeas.out
          cases hx : e tsx with
          | bad c0 p0 =>
           rw [hx] at hst
           rw [meas_bad hst]
           omega
          | ok a r0 =>
           rw [hx] at hst
           rw [meas_ok hst]
           have := HT.out _ _ _ hx
           omega
end
end Go.Proofs.YtcilgkdnjgmogaaGreatDoor
