/- What 'Get' returns: the module that has these bytes, or the error. Conditions: none beyond what bytes are. -/
import Derived.Test.YtecjkmemihmkcaaDoorZl
namespace Go.Proofs.YtecjkmemihmkcaaDoor
set_option maxRecDepth 100000
open Go.RowKit
set_option linter.unusedSimpArgs false
set_option linter.unusedVariables false

theorem ret_two {fn : Func} (h : fn.results = #[.cell 2 25, .tmp 3]) (tmps : Array Value) (w : World) (g : Nat) (cs : List Value) (hp : tmps.getD 2 undef = .pointer (some ⟨g, 0, none⟩)) (hr : w.rangeAt g 0 cs) (hl : cs.length = 2) :
    (results fn tmps).run Tryd.prog w = .ok (.tuple #[.agg cs.toArray, tmps.getD 3 undef]) w := by
  have hp' : tmps[2]?.getD undef = .pointer (some ⟨g, 0, none⟩) := by simpa using hp
  have h1 := run_loadVar_mid (P := Tryd.prog) w g 0 25 cs _ hr Tryd.underlying25 rfl (by rw [hl]; exact info25s)
  simp [results, h, hp', asAddr, h1]
theorem get_parts (l : List Int) (r1 : Rd (List Cd)) (r2 : Rd (List (List Int))) (h1 : r1 = rowOf l 64 (codeR l) 0) (h2 : r2 = r1.st.bind fun _ p => rowR l p) :
    (∀ e, r2.st = .bad e → partsR l = .bad e) ∧ ∀ p, r2.st = .ok () p → ∃ cs q ts, r1 = .ok cs q ∧ r2 = .ok ts p ∧ partsR l = .ok ⟨cs, ts⟩ p := by
  subst h2 h1
  unfold partsR
  cases h1 : rowOf l 64 (codeR l) 0 with
  | bad e =>
    refine ⟨fun e' h => ?_, fun p h => (by cases h)⟩
    injection h with h
    rw [h]
    rfl
  | ok cs q =>
    simp only [Rd.bind_ok, Rd.st_ok]
    cases h2 : rowR l q with
    | bad e =>
      refine ⟨fun e' h => ?_, fun p h => (by cases h)⟩
      injection h with h
      rw [h]
      rfl
    | ok ts p =>
      refine ⟨fun e' h => (by cases h), fun p' h => ?_⟩
      injection h with _ h
      subst h
      exact ⟨cs, q, ts, rfl, rfl, rfl⟩

/-- Get's three variables, and what it keeps -/
structure Gst (S : Sc) (w : World) (cs : List Value) (σ : Rd Unit) (x : World) : Prop where
  mw : Below w.heap.size w x
  pl : PlS x (w.heap.size + 1) 57 S σ
  res : x.heap[w.heap.size]? = some (.cells #[.slice none 0 0, .slice none 0 0] 25 (0, 0))
  var : x.heap[w.heap.size + 2]? = some (.cells cs.toArray 25 (0, 0))
theorem Gst.call {S : Sc} {w x y : World} {cs : List Value} {σ σ' : Rd Unit} (h : Gst S w cs σ x) (hm : Moves (w.heap.size + 1) x y) (hp : PlS y (w.heap.size + 1) 57 S σ') : Gst S w cs σ' y :=
  ⟨h.mw.trans (hm.below (Nat.le_succ _) h.mw.size), hp, by rw [hm.at (lt_of_some h.res) (by omega)]; exact h.res, by rw [hm.at (lt_of_some h.var) (by omega)]; exact h.var⟩
theorem Gst.set {S : Sc} {w x : World} {cs : List Value} {σ : Rd Unit} (h : Gst S w cs σ x) (k : Nat) (v : Value) : Gst S w (cs.set k v) σ (x.setCell ⟨w.heap.size + 2, k, none⟩ v) := by
  have hb : Below (w.heap.size + 2) x (x.setCell ⟨w.heap.size + 2, k, none⟩ v) := (Below.refl _ _).setCell (p := ⟨w.heap.size + 2, k, none⟩) (Nat.le_refl _) v
  have k1 := heap_setCell_same x (w.heap.size + 2) k _ 25 v h.var
  refine ⟨h.mw.trans (hb.mono (by omega)), h.pl.low hb (by omega), by rw [hb.block _ (by omega)]; exact h.res, ?_⟩
  rw [k1]
  simp
theorem Gst.cell {S : Sc} {w x : World} {cs : List Value} {σ : Rd Unit} (h : Gst S w cs σ x) {k : Nat} {v : Value} (hv : cs[k]? = some v) : x.cell? ⟨w.heap.size + 2, k, none⟩ = some v ∧ x.frozen? ⟨w.heap.size + 2, k, none⟩ = false := by
  refine ⟨?_, frozen_of_row _ _ _ _ _ h.var⟩
  rw [cell_of_row _ _ _ _ _ _ h.var]
  simpa using hv

/-- what Get returns -/
def GetGot (l : List Int) (w : World) (e : Ending) (w' : World) : Prop :=
  Below w.heap.size w w' ∧ ((∃ m q V, getR l = .ok m q ∧ e = .returned (.tuple #[V, .int .i64 0]) ∧ ModV w' w'.heap.size m V ∧ ∀ c ∈ m.codes, Byt c.name) ∨ (∃ E, getR l = .bad E ∧ E ≠ 0 ∧ e = .returned (.tuple #[.agg #[.slice none 0 0, .slice none 0 0], .int .i64 E])))

set_option maxHeartbeats 1600000 in
theorem get (A : Option Addr) (l : List Int) (c : Nat) (w : World) (hc : l.length ≤ c) (hcm : c ≤ maxLen) (hl : Lies w w.heap.size A c (cellsOf l)) (hby : Byt l) :
    Calls Tryd.prog 14 #[.slice A l.length c] w (GetGot l w) := by
  obtain ⟨S, hSA, hSc, hSl⟩ : ∃ S : Sc, S.A = A ∧ S.c = c ∧ S.l = l := ⟨⟨A, c, l, hby, hc, hcm⟩, rfl, rfl, rfl⟩
  subst hSA hSc hSl
  have G0 : Hid (Gst S w [.slice none 0 0, .slice none 0 0] (.ok () 0) (((w.alloc (.cells #[.slice none 0 0, .slice none 0 0] 25)).alloc (.cells #[.slice S.A S.l.length S.c, .int .i64 0, .int .i64 0] 57)).alloc (.cells #[.slice none 0 0, .slice none 0 0] 25))) := by
    have b1 : Below w.heap.size w (w.alloc (.cells #[.slice none 0 0, .slice none 0 0] 25)) := (Below.refl _ _).alloc (Nat.le_refl _) _
    have b3 : Below w.heap.size w (((w.alloc (.cells #[.slice none 0 0, .slice none 0 0] 25)).alloc (.cells #[.slice S.A S.l.length S.c, .int .i64 0, .int .i64 0] 57)).alloc (.cells #[.slice none 0 0, .slice none 0 0] 25)) := (b1.alloc b1.size _).alloc (by simp; omega) _
    refine ⟨b3, ⟨0, 0, ⟨?_, (hl.below b3).more (Nat.le_succ _)⟩, .inl ⟨rfl, rfl, by omega, by omega⟩⟩, ?_, ?_⟩
    · rw [Below.heap_alloc _ _ _ (by simp)]
      have := heap_alloc_new (w.alloc (.cells #[.slice none 0 0, .slice none 0 0] 25)) (.cells #[.slice S.A S.l.length S.c, .int .i64 0, .int .i64 0] 57)
      rw [World.size_alloc] at this
      exact this
    · rw [Below.heap_alloc _ _ _ (by simp; omega), Below.heap_alloc _ _ _ (by simp)]
      exact heap_alloc_new w _
    · have := heap_alloc_new ((w.alloc (.cells #[.slice none 0 0, .slice none 0 0] 25)).alloc (.cells #[.slice S.A S.l.length S.c, .int .i64 0, .int .i64 0] 57)) (.cells #[.slice none 0 0, .slice none 0 0] 25)
      rw [World.size_alloc, World.size_alloc] at this
      exact this
  have hmx := S.hc
  have hmy := S.hcm
  unfold maxLen at hmy
  clear hl hc hcm hby
  go_enter Tryd.func14, Tryd.ntmps14
  go_upto_region 3 with fail
  generalize (((w.alloc (.cells #[.slice none 0 0, .slice none 0 0] 25)).alloc (.cells #[.slice S.A S.l.length S.c, .int .i64 0, .int .i64 0] 57)).alloc (.cells #[.slice none 0 0, .slice none 0 0] 25)) = x0 at *
  have K := Lib.hid (codeReader (w.heap.size + 1) S x0 G0.out.pl.lt)
  go_wp2_with fail
  refine K.out.mono ?_
  clear K
  rintro e x1 ⟨F, rfl, hb1, hF⟩
  obtain ⟨r1, hr1⟩ : ∃ r, r = rowOf S.l 64 (codeR S.l) 0 := ⟨_, rfl⟩
  have HR1 := Lib.hid hr1
  have G1 := Lib.hid (G0.out.call (Moves.of_below hb1 (Nat.le_refl _)) (G0.out.pl.low hb1 G0.out.pl.lt))
  have K := Lib.hid (elemsCode (w.heap.size + 1) S 64 F (codeR S.l) (fun h => codeR_in h) (by omega) (.ok () 0) x1 hF G1.out.pl)
  rw [Rd.bind_ok, ← hr1] at K
  clear hb1 hF hr1 G0
  go_wp2_with fail
  refine K.out.mono ?_
  clear K
  rintro e x2 ⟨v2, rfl, hm2, hp2, ⟨A2, m2, c2, rfl⟩, hv2⟩
  have G2 := Lib.hid (G1.out.call hm2 hp2)
  have V2 : Hid (∀ a q, r1 = .ok a q → ∃ xs, RowT (x2.setCell ⟨w.heap.size + 2, 0, none⟩ (.slice A2 m2 c2)) 46 a.length xs (.slice A2 m2 c2) ∧ CosC (RowT (x2.setCell ⟨w.heap.size + 2, 0, none⟩ (.slice A2 m2 c2)) 43) (RowT (x2.setCell ⟨w.heap.size + 2, 0, none⟩ (.slice A2 m2 c2)) 50) a xs ∧ ∀ c ∈ a, Byt c.name) := fun a q h => by
    obtain ⟨xs, k1, k2, k3⟩ := hv2 a q h
    exact ⟨xs, k1.kept (KeptT.set G2.out.var (by decide)), k2.mono (fun _ _ _ h => h.kept (KeptT.set G2.out.var (by decide))) (fun _ _ _ h => h.kept (KeptT.set G2.out.var (by decide))), k3⟩
  obtain ⟨d0, d1⟩ := G2.out.cell (k := 0) rfl
  clear hm2 hp2 hv2 G1
  go_upto_region 4 with fail
  have S2 : Hid (Gst S w [.slice A2 m2 c2, .slice none 0 0] r1.st (x2.setCell ⟨w.heap.size + 2, 0, none⟩ (.slice A2 m2 c2))) := Lib.hid (G2.out.set 0 (.slice A2 m2 c2))
  clear d0 d1 G2
  generalize x2.setCell ⟨w.heap.size + 2, 0, none⟩ (.slice A2 m2 c2) = y2 at *
  have K := Lib.hid (makeRow (w.heap.size + 1) S y2 S2.out.pl.lt)
  go_wp2_with fail
  refine K.out.mono ?_
  clear K
  rintro e x3 ⟨F3, rfl, hb3, hF3⟩
  obtain ⟨fr, cr, rfl, her, hr3⟩ := hF3
  have her' : ∀ (args : Array Value) (w : World), (callFunc fr args).run Tryd.prog w = .ok (.enter fr args) w := her
  have G3 := Lib.hid (S2.out.call (Moves.of_below hb3 (Nat.le_refl _)) (S2.out.pl.low hb3 S2.out.pl.lt))
  have K3 : Hid (∀ T, KeptT T y2 x3) := fun T => KeptT.below hb3 (Nat.le_refl _)
  have K := Lib.hid (hr3 x3 _ (Moves.refl _ _) G3.out.pl)
  obtain ⟨r2, hr2⟩ : ∃ r, r = r1.st.bind fun _ p => rowR S.l p := ⟨_, rfl⟩
  have HR2 := Lib.hid hr2
  rw [← hr2] at K
  clear hb3 hr3 her hr2 S2
  go_wp2_with fail
  refine K.out.mono ?_
  clear K
  rintro e x4 ⟨v4, rfl, hm4, hp4, ⟨A4, m4, c4, rfl⟩, hv4⟩
  have G4 := Lib.hid (G3.out.call hm4 hp4)
  have V4 : Hid (∀ a q, r2 = .ok a q → GridT (x4.setCell ⟨w.heap.size + 2, 1, none⟩ (.slice A4 m4 c4)) a (.slice A4 m4 c4)) := fun a q h => (hv4 a q h).kept (KeptT.set G4.out.var (by decide)) (KeptT.set G4.out.var (by decide))
  have K4 : Hid (∀ T, T ≠ 57 → T ≠ 25 → KeptT T y2 (x4.setCell ⟨w.heap.size + 2, 1, none⟩ (.slice A4 m4 c4))) := fun T h57 h25 => by
    obtain ⟨cc, hcc⟩ := G3.out.pl.tag
    exact (K3.out T).trans ((KeptT.moves hm4 hcc h57).trans (KeptT.set G4.out.var h25))
  obtain ⟨d0, d1⟩ := G4.out.cell (k := 1) rfl
  clear hm4 hp4 hv4 G3 K3 her'
  go_upto_region 5 with fail
  have S4 : Hid (Gst S w [.slice A2 m2 c2, .slice A4 m4 c4] r2.st (x4.setCell ⟨w.heap.size + 2, 1, none⟩ (.slice A4 m4 c4))) := Lib.hid (G4.out.set 1 (.slice A4 m4 c4))
  clear d0 d1 G4
  generalize x4.setCell ⟨w.heap.size + 2, 1, none⟩ (.slice A4 m4 c4) = y4 at *
  obtain ⟨hp1, hp2⟩ := get_parts S.l r1 r2 HR1.out HR2.out
  obtain ⟨p, e, ha, hs⟩ := S4.out.pl
  obtain ⟨c0, c1, c2', c3⟩ := ha.cell
  have HTH : Hid (y4.there w.heap.size 0 2) := Lib.hid (there_cells (cs := [.slice none 0 0, .slice none 0 0]) S4.out.res rfl)
  rcases hs with ⟨hst, rfl, p0, pl⟩ | ⟨hst, hne⟩
  · obtain ⟨cs, q, ts, e1, e2, e3⟩ := hp2 p hst
    obtain ⟨xs, k1, k2, k3⟩ := V2.out _ _ e1
    have k4 := V4.out _ _ e2
    have hm2 : m2 = cs.length := by
      obtain ⟨A, c, h, _⟩ := k1
      injection h
    have hm4 : m4 = ts.length := by
      obtain ⟨vs, _, ⟨A, c, h, _⟩, _⟩ := k4
      injection h
    subst hm2 hm4
    have MK : Hid (∀ z, (∀ T, T ≠ 25 → T ≠ 57 → KeptT T y4 z) → ModV z z.heap.size ⟨cs, ts⟩ (.agg #[.slice A2 cs.length c2, .slice A4 ts.length c4])) := fun z hz => by
      have hk : ∀ T, T ≠ 25 → T ≠ 57 → KeptT T y2 z := fun T h1 h2 => (K4.out T h2 h1).trans (hz T h1 h2)
      have r1 := (k1.kept (hk 46 (by decide) (by decide))).lies
      have r2 := k2.mono (fun _ _ _ h => (h.kept (hk 43 (by decide) (by decide))).lies) (fun _ _ _ h => (h.kept (hk 50 (by decide) (by decide))).lies)
      have r3 := (k4.kept (hz 26 (by decide) (by decide)) (hz 5 (by decide) (by decide))).lies
      obtain ⟨A, c, h1, h2, h3, h4⟩ := r1
      exact ⟨_, _, rfl, ⟨A, c, xs, h1, h2, h3, h4, r2⟩, r3⟩
    have hlen1 : cs.length ≤ c2 ∧ c2 ≤ maxLen := by
      obtain ⟨A, c, h, h1, h2, _⟩ := k1
      injection h with _ _ h
      subst h
      exact ⟨h1, h2⟩
    have hlen2 : ts.length ≤ c4 ∧ c4 ≤ maxLen := by
      obtain ⟨vs, _, ⟨A, c, h, h1, h2, _⟩, _⟩ := k4
      injection h with _ _ h
      subst h
      exact ⟨h1, h2⟩
    have HNM := Lib.hid k3
    have HPT := Lib.hid e3
    obtain ⟨v0, _⟩ := S4.out.cell (k := 0) rfl
    obtain ⟨v1, _⟩ := S4.out.cell (k := 1) rfl
    have HRG := Lib.hid (range_of (cs := [.slice A2 cs.length c2, .slice A4 ts.length c4]) S4.out.var)
    have HE8 : Hid (∀ z, Below w.heap.size w z → z.heap[w.heap.size]? = some (.cells #[.slice none 0 0, .slice none 0 0] 25 (0, 0)) → getR S.l = .bad 111 → True) := fun _ _ _ _ => trivial
    clear hp1 hp2 hst e1 e2 e3 k1 k2 k3 k4 ha c0 c3 V2 V4 K4 HE8
    by_cases hpe : p = S.l.length
    · subst hpe
      have KR := Lib.hid (right ⟨cs, ts⟩ (.agg #[.slice A2 cs.length c2, .slice A4 ts.length c4]) y4 (MK.out y4 (fun T _ _ b cc fr h => h)))
      go_wp2_with fail
      refine KR.out.mono ?_
      rintro e y5 ⟨rfl, hb5⟩
      have B5 := Lib.hid (S4.out.mw.trans (hb5.mono S4.out.mw.size))
      have hres : y5.heap[w.heap.size]? = some (.cells #[.slice none 0 0, .slice none 0 0] 25 (0, 0)) := by rw [hb5.block _ (lt_of_some S4.out.res)]; exact S4.out.res
      have hvar : y5.heap[w.heap.size + 2]? = some (.cells #[.slice A2 cs.length c2, .slice A4 ts.length c4] 25 (0, 0)) := by rw [hb5.block _ (lt_of_some S4.out.var)]; exact S4.out.var
      have HT5 : Hid (y5.there w.heap.size 0 2) := Lib.hid (there_cells (cs := [.slice none 0 0, .slice none 0 0]) hres rfl)
      have HR5 := Lib.hid (range_of (cs := [.slice A2 cs.length c2, .slice A4 ts.length c4]) hvar)
      have HRES := Lib.hid hres
      have HB5 := Lib.hid hb5
      clear v0 v1 hb5 hres hvar KR
      cases hok : okMd ⟨cs, ts⟩ with
      | false =>
        have HG : Hid (getR S.l = .bad 111) := Lib.hid (by unfold getR; rw [HPT.out, Rd.bind_ok, if_neg (fun h => by rw [hok] at h; cases h.2)])
        clear hok
        go_wp2_with (refine wpList_storeN info25s rfl (.tmp 2) (.tmp 40) rfl rfl w.heap.size rfl [.slice none 0 0, .slice none 0 0] rfl rfl HT5.out (by simp [Value.oneCell']) ?_; intro w6 g1 g2 g3 g4 g5)
        refine bodyPost_ret (ret_two Tryd.results14 _ _ w.heap.size [.slice none 0 0, .slice none 0 0] rfl g1 rfl) rfl ?_
        exact ⟨B5.out.trans g3, .inr ⟨111, HG.out, by decide, rfl⟩⟩
      | true =>
        have HG : Hid (getR S.l = .ok ⟨cs, ts⟩ S.l.length) := Lib.hid (by unfold getR; rw [HPT.out, Rd.bind_ok, if_pos ⟨rfl, hok⟩])
        clear hok
        go_wp2_with (first | (refine wpList_load_mid rfl 25 (.tmp 5) rfl (w.heap.size + 2) 0 rfl [.slice A2 cs.length c2, .slice A4 ts.length c4] _ HR5.out Tryd.underlying25 rfl info25s ?_; refine Hid.out ?_) | fail)
        refine Lib.hid ?_
        go_wp2_with (refine wpList_storeN info25s rfl (.tmp 2) (.tmp 41) rfl rfl w.heap.size rfl [.slice A2 cs.length c2, .slice A4 ts.length c4] rfl rfl HT5.out (by simp [Value.oneCell']) ?_; intro w6 g1 g2 g3 g4 g5)
        refine bodyPost_ret (ret_two Tryd.results14 _ _ w.heap.size [.slice A2 cs.length c2, .slice A4 ts.length c4] rfl g1 rfl) rfl ?_
        refine ⟨B5.out.trans g3, .inl ⟨_, _, _, HG.out, rfl, MK.out w6 (fun T h25 h57 b cc fr hb => ?_), HNM.out⟩⟩
        have h5 := KeptT.below (T := T) HB5.out (Nat.le_refl _) b cc fr hb
        rw [g4 b (by rintro rfl; rw [HRES.out] at h5; injection h5 with e; injection e with _ e _; exact h25 e.symm)]
        exact h5
    · have HG : Hid (getR S.l = .bad 111) := Lib.hid (by unfold getR; rw [HPT.out, Rd.bind_ok, if_neg (fun h => hpe h.1)])
      have hpb : (p != (S.l.length : Int)) = true := by simpa using hpe
      clear v0 v1
      go_wp2_with (refine wpList_storeN info25s rfl (.tmp 2) (.tmp 40) rfl rfl w.heap.size rfl [.slice none 0 0, .slice none 0 0] rfl rfl HTH.out (by simp [Value.oneCell']) ?_; intro w6 g1 g2 g3 g4 g5)
      refine bodyPost_ret (ret_two Tryd.results14 _ _ w.heap.size [.slice none 0 0, .slice none 0 0] rfl g1 rfl) rfl ?_
      exact ⟨S4.out.mw.trans g3, .inr ⟨111, HG.out, by decide, rfl⟩⟩
  · have hb := hp1 e hst
    have HG : Hid (getR S.l = .bad e) := Lib.hid (by unfold getR; rw [hb]; rfl)
    have hne2 : (e != 0) = true := by simpa using hne
    have hcd : y4.drew.cell? ⟨w.heap.size + 1, 2, none⟩ = some (.int .i64 e) := c2'
    clear hp1 hp2 hb ha hst
    go_wp2_with fail
    have f0 : y4.cell? ⟨w.heap.size, 0, none⟩ = some (.slice none 0 0) := by
      rw [cell_of_row _ _ _ _ _ _ S4.out.res]; rfl
    have f1 : (y4.setCell ⟨w.heap.size, 0, none⟩ (.slice none 0 0)).cell? ⟨w.heap.size, 1, none⟩ = some (.slice none 0 0) := by
      rw [cell_of_row _ _ _ _ _ _ (heap_setCell_same _ _ _ _ _ _ S4.out.res)]; rfl
    have f2 : y4.frozen? ⟨w.heap.size, 0, none⟩ = false := frozen_of_row _ _ _ _ _ S4.out.res
    have f3 : y4.frozen? ⟨w.heap.size, 1, none⟩ = false := frozen_of_row _ _ _ _ _ S4.out.res
    have hce : (((y4.setCell ⟨w.heap.size, 0, none⟩ (.slice none 0 0)).setCell ⟨w.heap.size, 1, none⟩ (.slice none 0 0)).drew).cell? ⟨w.heap.size + 1, 2, none⟩ = some (.int .i64 e) := by
      show World.cell? ((y4.setCell ⟨w.heap.size, 0, none⟩ (.slice none 0 0)).setCell ⟨w.heap.size, 1, none⟩ (.slice none 0 0)) _ = _
      rw [World.cell?_of_block (w := y4) (by rw [Below.heap_setCell _ _ _ _ (by simp), Below.heap_setCell _ _ _ _ (by simp)])]
      exact c2'
    go_region_held3 (fun w' => w'.cell? ⟨w.heap.size + 1, 2, none⟩ = some (.int .i64 e))
      (first | with_reducible exact hcd | with_reducible exact hce)
      (fail)
    have hrg : ((y4.setCell ⟨w.heap.size, 0, none⟩ (.slice none 0 0)).setCell ⟨w.heap.size, 1, none⟩ (.slice none 0 0)).drew.rangeAt w.heap.size 0 [.slice none 0 0, .slice none 0 0] := by
      have k1 := heap_setCell_same y4 w.heap.size 0 _ 25 (.slice none 0 0) S4.out.res
      have k2 := heap_setCell_same _ w.heap.size 1 _ 25 (.slice none 0 0) k1
      exact range_of (cs := [.slice none 0 0, .slice none 0 0]) k2
    have HBW : Hid (Below w.heap.size w ((y4.setCell ⟨w.heap.size, 0, none⟩ (.slice none 0 0)).setCell ⟨w.heap.size, 1, none⟩ (.slice none 0 0)).drew) := Lib.hid (((S4.out.mw.setCell (p := ⟨w.heap.size, 0, none⟩) (Nat.le_refl _) _).setCell (p := ⟨w.heap.size, 1, none⟩) (Nat.le_refl _) _).drew)
    clear hce hcd f0 f1 f2 f3
    generalize ((y4.setCell ⟨w.heap.size, 0, none⟩ (.slice none 0 0)).setCell ⟨w.heap.size, 1, none⟩ (.slice none 0 0)).drew = wf at *
    go_wp2
    refine bodyPost_ret (ret_two Tryd.results14 _ _ w.heap.size [_, _] rfl hrg rfl) rfl ?_
    exact ⟨HBW.out, .inr ⟨e, HG.out, hne, rfl⟩⟩

end Go.Proofs.YtecjkmemihmkcaaDoor
