/- The reader of a code. Conditions: the place and the readers of its parts lie where it says. -/
import Derived.Test.YtecjkmemihmkcaaDoorZj
namespace Go.Proofs.YtecjkmemihmkcaaDoor
set_option maxRecDepth 100000
open Go.RowKit
set_option linter.unusedSimpArgs false
set_option linter.unusedVariables false

theorem code_parts (σ : Rd Unit) (l : List Int) (r1 : Rd (List Int)) (r2 : Rd (List Int)) (r3 r4 : Rd Int) (r5 : Rd (List (Int × Int))) (h1 : r1 = σ.bind fun _ p => bytesR l p) (h2 : r2 = r1.st.bind fun _ p => rowOf l 16 (numR l) p) (h3 : r3 = r2.st.bind fun _ p => numR l p)
    (h4 : r4 = r3.st.bind fun _ p => numR l p) (h5 : r5 = r4.st.bind fun _ p => rowOf l 16384 (instrR l) p) :
    (σ.bind fun _ p => codeR l p).st = r5.st ∧ ∀ c q, (σ.bind fun _ p => codeR l p) = .ok c q → (∃ q, r1 = .ok c.name q) ∧ (∃ q, r2 = .ok c.params q) ∧ (∃ q, r3 = .ok c.result q) ∧ (∃ q, r4 = .ok c.slots q) ∧ (∃ q, r5 = .ok c.instrs q) := by
  subst h5 h4 h3 h2 h1
  cases σ with
  | bad e => exact ⟨rfl, fun c q h => by cases h⟩
  | ok u p =>
    simp only [Rd.bind_ok, codeR]
    cases h1 : bytesR l p with
    | bad e => exact ⟨rfl, fun c q h => by cases h⟩
    | ok a1 p1 =>
      simp only [Rd.bind_ok, Rd.st_ok]
      cases h2 : rowOf l 16 (numR l) p1 with
      | bad e => exact ⟨rfl, fun c q h => by cases h⟩
      | ok a2 p2 =>
        simp only [Rd.bind_ok, Rd.st_ok]
        cases h3 : numR l p2 with
        | bad e => exact ⟨rfl, fun c q h => by cases h⟩
        | ok a3 p3 =>
          simp only [Rd.bind_ok, Rd.st_ok]
          cases h4 : numR l p3 with
          | bad e => exact ⟨rfl, fun c q h => by cases h⟩
          | ok a4 p4 =>
            simp only [Rd.bind_ok, Rd.st_ok]
            cases h5 : rowOf l 16384 (instrR l) p4 with
            | bad e => exact ⟨rfl, fun c q h => by cases h⟩
            | ok a5 p5 =>
              refine ⟨rfl, fun c q h => ?_⟩
              injection h with e1 e2
              subst e1
              exact ⟨⟨_, rfl⟩, ⟨_, rfl⟩, ⟨_, rfl⟩, ⟨_, rfl⟩, ⟨_, rfl⟩⟩

/-- the two variables of the reader of a code, and what it keeps -/
structure Cst (R : Nat) (S : Sc) (w0 w : World) (cs : List Value) (σ : Rd Unit) (x : World) : Prop where
  mw : Moves R w x
  m0 : Moves R w0 x
  pl : PlS x R 57 S σ
  res : x.heap[w.heap.size]? = some (.cells #[.string ⟨#[]⟩, .slice none 0 0, .int .i64 0, .int .i64 0, .slice none 0 0] 46 (0, 0))
  var : x.heap[w.heap.size + 1]? = some (.cells cs.toArray 46 (0, 0))
  lt : R < w.heap.size
theorem Cst.call {R : Nat} {S : Sc} {w0 w x y : World} {cs : List Value} {σ σ' : Rd Unit} (h : Cst R S w0 w cs σ x) (hm : Moves R x y) (hp : PlS y R 57 S σ') : Cst R S w0 w cs σ' y :=
  ⟨h.mw.trans hm, h.m0.trans hm, hp, by rw [hm.at (lt_of_some h.res) (by have := h.lt; omega)]; exact h.res, by rw [hm.at (lt_of_some h.var) (by have := h.lt; omega)]; exact h.var, h.lt⟩
theorem Cst.set {R : Nat} {S : Sc} {w0 w x : World} {cs : List Value} {σ : Rd Unit} (h : Cst R S w0 w cs σ x) (hw : w0.heap.size ≤ w.heap.size) (k : Nat) (v : Value) : Cst R S w0 w (cs.set k v) σ (x.setCell ⟨w.heap.size + 1, k, none⟩ v) := by
  have hb : Below (w.heap.size + 1) x (x.setCell ⟨w.heap.size + 1, k, none⟩ v) := (Below.refl _ _).setCell (p := ⟨w.heap.size + 1, k, none⟩) (Nat.le_refl _) v
  have k1 := heap_setCell_same x (w.heap.size + 1) k _ 46 v h.var
  refine ⟨h.mw.low hb (Nat.le_succ _), h.m0.low hb (by omega), h.pl.low hb (by have := h.lt; omega), by rw [hb.block _ (Nat.lt_succ_self _)]; exact h.res, ?_, h.lt⟩
  rw [k1]
  simp
theorem Cst.cell {R : Nat} {S : Sc} {w0 w x : World} {cs : List Value} {σ : Rd Unit} (h : Cst R S w0 w cs σ x) {k : Nat} {v : Value} (hv : cs[k]? = some v) : x.cell? ⟨w.heap.size + 1, k, none⟩ = some v ∧ x.frozen? ⟨w.heap.size + 1, k, none⟩ = false := by
  refine ⟨?_, frozen_of_row _ _ _ _ _ h.var⟩
  rw [cell_of_row _ _ _ _ _ _ h.var]
  simpa using hv
theorem KeptT.set {T T' : TypeId} {x : World} {b k : Nat} {cs : Array Value} {v : Value} (h : x.heap[b]? = some (.cells cs T' (0, 0))) (hT : T ≠ T') : KeptT T x (x.setCell ⟨b, k, none⟩ v) := by
  intro b' cs' fr hb
  rw [Below.heap_setCell _ _ _ _ (by rintro rfl; rw [h] at hb; injection hb with e; injection e with _ e _; exact hT e.symm)]
  exact hb
theorem PlS.tag {x : World} {R T : Nat} {S : Sc} {σ : Rd Unit} (h : PlS x R T S σ) : ∃ cs, x.heap[R]? = some (.cells cs T (0, 0)) := by
  obtain ⟨p, e, ha, _⟩ := h
  exact ⟨_, ha.1⟩

theorem lies_one {w : World} {B B' : Nat} {A : Option Addr} {c c' : Nat} {a s : List Int} (h : Lies w B A c (cellsOf a)) (h' : Lies w B' A c' (cellsOf s)) (hl : a.length = s.length) : a = s := by
  apply List.ext_getElem hl
  intro i h1 h2
  obtain ⟨ad, e1, _, k1⟩ := h.2 i (.int .u8 a[i]) (by simp [h1])
  obtain ⟨ad', e2, _, k2⟩ := h'.2 i (.int .u8 s[i]) (by simp [h2])
  rw [e1] at e2
  injection e2 with e2
  subst e2
  rw [k1] at k2
  injection k2 with k2
  injection k2 with _ k2

set_option maxHeartbeats 1600000 in
theorem partCode (R : Nat) (S : Sc) (b0 b1 b2 b3 b4 : Nat) (Ft Fk Fn Fi : Value) (w0 : World)
    (hFt : Part R S Ft (bytesR S.l) (fun w' s v => Byt s ∧ RowL w' w'.heap.size s.length (cellsOf s) v) (fun w' v => ∃ s, RowL w' w'.heap.size s.length (cellsOf s) v) w0)
    (hFk : Part R S Fk (numR S.l) (fun _ n v => v = .int .i64 n) (fun _ v => ∃ n, v = .int .i64 n) w0) (hFn : Part R S Fn (numR S.l) (fun _ n v => v = .int .i64 n) (fun _ v => ∃ n, v = .int .i64 n) w0)
    (hFi : Part R S Fi (instrR S.l) (fun _ i v => v = .agg #[.int .i64 i.1, .int .i64 i.2]) (fun _ v => ∃ o a, v = .agg #[.int .i64 o, .int .i64 a]) w0)
    (o0 : One w0 b0 83 Ft) (o1 : One w0 b1 55 (.pointer (some ⟨R, 0, none⟩))) (o2 : One w0 b2 87 Fk) (o3 : One w0 b3 80 Fn) (o4 : One w0 b4 89 Fi) (n0 : b0 ≠ R) (n1 : b1 ≠ R) (n2 : b2 ≠ R) (n3 : b3 ≠ R) (n4 : b4 ≠ R) :
    Part R S (.func (.func 58) #[] #[.pointer (some ⟨b0, 0, none⟩), .pointer (some ⟨b1, 0, none⟩), .pointer (some ⟨b2, 0, none⟩), .pointer (some ⟨b3, 0, none⟩), .pointer (some ⟨b4, 0, none⟩)]) (codeR S.l)
      (fun w' c v => ∃ P I, v = .agg (coC c P I).toArray ∧ RowT w' 43 c.params.length (tysV c.params) P ∧ RowT w' 50 c.instrs.length (insV c.instrs) I ∧ Byt c.name)
      (fun _ v => ∃ s A n c x y A' n' c', v = .agg #[.string s, .slice A n c, .int .i64 x, .int .i64 y, .slice A' n' c']) w0 := by
  refine ⟨58, _, rfl, by intro args w; simp, fun w σ hm hp => ?_⟩
  have HFT := Lib.hid hFt
  have HFK := Lib.hid hFk
  have HFN := Lib.hid hFn
  have HFI := Lib.hid hFi
  have O0 := Lib.hid o0
  have O1 := Lib.hid o1
  have O2 := Lib.hid o2
  have O3 := Lib.hid o3
  have O4 := Lib.hid o4
  have hw0 := hm.size
  have hlt := hp.lt
  obtain ⟨ft, ct, rfl, het, ht3⟩ := hFt
  obtain ⟨fk, ck, rfl, hek, hk3⟩ := hFk
  obtain ⟨fn, cn, rfl, hen, hn3⟩ := hFn
  have het' : ∀ (args : Array Value) (w : World), (callFunc ft args).run Tryd.prog w = .ok (.enter ft args) w := het
  have hek' : ∀ (args : Array Value) (w : World), (callFunc fk args).run Tryd.prog w = .ok (.enter fk args) w := hek
  have hen' : ∀ (args : Array Value) (w : World), (callFunc fn args).run Tryd.prog w = .ok (.enter fn args) w := hen
  have bb : Below w.heap.size w ((w.alloc (.cells #[.string ⟨#[]⟩, .slice none 0 0, .int .i64 0, .int .i64 0, .slice none 0 0] 46)).alloc (.cells #[.string ⟨#[]⟩, .slice none 0 0, .int .i64 0, .int .i64 0, .slice none 0 0] 46)) := ((Below.refl _ _).alloc (Nat.le_refl _) _).alloc (by simp) _
  have ST0 : Hid (Cst R S w0 w [.string ⟨#[]⟩, .slice none 0 0, .int .i64 0, .int .i64 0, .slice none 0 0] σ ((w.alloc (.cells #[.string ⟨#[]⟩, .slice none 0 0, .int .i64 0, .int .i64 0, .slice none 0 0] 46)).alloc (.cells #[.string ⟨#[]⟩, .slice none 0 0, .int .i64 0, .int .i64 0, .slice none 0 0] 46))) := by
    refine ⟨Moves.of_below bb (Nat.le_refl _), hm.trans (Moves.of_below bb (Nat.le_refl _)), hp.low bb hlt, ?_, ?_, hlt⟩
    · rw [Below.heap_alloc _ _ _ (by simp)]
      exact heap_alloc_new w _
    · have := heap_alloc_new (w.alloc (.cells #[.string ⟨#[]⟩, .slice none 0 0, .int .i64 0, .int .i64 0, .slice none 0 0] 46)) (.cells #[.string ⟨#[]⟩, .slice none 0 0, .int .i64 0, .int .i64 0, .slice none 0 0] 46)
      rw [World.size_alloc] at this
      exact this
  have K := Lib.hid (ht3 _ _ ST0.out.m0 ST0.out.pl)
  have hc0 := (O0.out.moves ST0.out.m0 n0).cell
  have HK3 := Lib.hid hk3
  have HN3 := Lib.hid hn3
  clear ht3 hk3 hn3 o0 o1 o2 o3 o4 hFi bb het hek hen hp hm
  obtain ⟨r1, hr1⟩ : ∃ r, r = σ.bind fun _ p => bytesR S.l p := ⟨_, rfl⟩
  have HR1 := Lib.hid hr1
  rw [← hr1] at K
  clear hr1
  go_enter Tryd.func58, Tryd.ntmps58
  go_wp2_with fail
  refine K.out.mono ?_
  clear K
  rintro e x1 ⟨v1, rfl, hm1, hp1, ⟨s, hsl⟩, hv1⟩
  have ST1 := Lib.hid (ST0.out.call hm1 hp1)
  have V1 := Lib.hid hv1
  obtain ⟨A1, c1, rfl, g1, g2, g3⟩ := hsl
  have hcv := run_string_lies (P := Tryd.prog) x1 26 9 5 Tryd.underlying26 Tryd.underlying5 Tryd.underlying9 x1.heap.size A1 s.length c1 s rfl g3
  have HSA : Hid (∀ a q, r1 = .ok a q → a = s) := fun a q h => by
    obtain ⟨_, A', c', e1, _, _, e2⟩ := hv1 a q h
    injection e1 with e3 e4 e5
    subst e3
    exact lies_one e2 g3 e4.symm
  obtain ⟨d0, d1⟩ := ST1.out.cell (k := 0) rfl
  clear hm1 hp1 hv1 hc0 g1 g2 g3 ST0
  go_upto_region 3 with fail
  have S1 : Hid (Cst R S w0 w [.string (strOfNums s), .slice none 0 0, .int .i64 0, .int .i64 0, .slice none 0 0] r1.st (x1.setCell ⟨w.heap.size + 1, 0, none⟩ (.string (strOfNums s)))) := Lib.hid (ST1.out.set hw0 0 (.string (strOfNums s)))
  clear d0 d1 hcv
  generalize x1.setCell ⟨w.heap.size + 1, 0, none⟩ (.string (strOfNums s)) = y1 at *
  obtain ⟨r2, hr2⟩ : ∃ r, r = r1.st.bind fun _ p => rowOf S.l 16 (numR S.l) p := ⟨_, rfl⟩
  have HR2 := Lib.hid hr2
  have K := Lib.hid (elemsType R S 16 _ (numR S.l) (fun h => by have := numR_in h; omega) (by omega) r1.st y1 (HFK.out.on S1.out.m0) S1.out.pl)
  rw [← hr2] at K
  have hc1 := (O1.out.moves S1.out.m0 n1).cell
  have hc2 := (O2.out.moves S1.out.m0 n2).cell
  clear hr2 ST1
  go_wp2_with fail
  refine K.out.mono ?_
  clear K
  rintro e x2 ⟨v2, rfl, hm2, hp2, ⟨A2, m2, c2, rfl⟩, hv2⟩
  have ST2 := Lib.hid (S1.out.call hm2 hp2)
  have V2 : Hid (∀ a q, r2 = .ok a q → RowT (x2.setCell ⟨w.heap.size + 1, 1, none⟩ (.slice A2 m2 c2)) 43 a.length (tysV a) (.slice A2 m2 c2)) := fun a q h => (hv2 a q h).kept (KeptT.set ST2.out.var (by decide))
  obtain ⟨d0, d1⟩ := ST2.out.cell (k := 1) rfl
  clear hm2 hp2 hv2 hc1 hc2 S1
  go_upto_region 4 with fail
  have S2 : Hid (Cst R S w0 w [.string (strOfNums s), .slice A2 m2 c2, .int .i64 0, .int .i64 0, .slice none 0 0] r2.st (x2.setCell ⟨w.heap.size + 1, 1, none⟩ (.slice A2 m2 c2))) := Lib.hid (ST2.out.set hw0 1 (.slice A2 m2 c2))
  clear d0 d1
  generalize x2.setCell ⟨w.heap.size + 1, 1, none⟩ (.slice A2 m2 c2) = y2 at *
  obtain ⟨r3, hr3⟩ : ∃ r, r = r2.st.bind fun _ p => numR S.l p := ⟨_, rfl⟩
  have HR3 := Lib.hid hr3
  have K := Lib.hid (HK3.out y2 _ S2.out.m0 S2.out.pl)
  rw [← hr3] at K
  have hc2 := (O2.out.moves S2.out.m0 n2).cell
  clear hr3 ST2
  go_wp2_with fail
  refine K.out.mono ?_
  clear K
  rintro e x3 ⟨v3, rfl, hm3, hp3, ⟨t3, rfl⟩, hv3⟩
  have ST3 := Lib.hid (S2.out.call hm3 hp3)
  have V3 := Lib.hid hv3
  have KA : Hid (KeptT 43 y2 (x3.setCell ⟨w.heap.size + 1, 2, none⟩ (.int .i64 t3))) := by
    obtain ⟨cc, hcc⟩ := S2.out.pl.tag
    exact (KeptT.moves hm3 hcc (by decide)).trans (KeptT.set ST3.out.var (by decide))
  obtain ⟨d0, d1⟩ := ST3.out.cell (k := 2) rfl
  clear hm3 hp3 hv3 hc2 S2
  go_upto_region 5 with fail
  have S3 : Hid (Cst R S w0 w [.string (strOfNums s), .slice A2 m2 c2, .int .i64 t3, .int .i64 0, .slice none 0 0] r3.st (x3.setCell ⟨w.heap.size + 1, 2, none⟩ (.int .i64 t3))) := Lib.hid (ST3.out.set hw0 2 (.int .i64 t3))
  clear d0 d1
  generalize x3.setCell ⟨w.heap.size + 1, 2, none⟩ (.int .i64 t3) = y3 at *
  obtain ⟨r4, hr4⟩ : ∃ r, r = r3.st.bind fun _ p => numR S.l p := ⟨_, rfl⟩
  have HR4 := Lib.hid hr4
  have K := Lib.hid (HN3.out y3 _ S3.out.m0 S3.out.pl)
  rw [← hr4] at K
  have hc3 := (O3.out.moves S3.out.m0 n3).cell
  clear hr4 ST3
  go_wp2_with fail
  refine K.out.mono ?_
  clear K
  rintro e x4 ⟨v4, rfl, hm4, hp4, ⟨t4, rfl⟩, hv4⟩
  have ST4 := Lib.hid (S3.out.call hm4 hp4)
  have V4 := Lib.hid hv4
  have KB : Hid (KeptT 43 y3 (x4.setCell ⟨w.heap.size + 1, 3, none⟩ (.int .i64 t4))) := by
    obtain ⟨cc, hcc⟩ := S3.out.pl.tag
    exact (KeptT.moves hm4 hcc (by decide)).trans (KeptT.set ST4.out.var (by decide))
  obtain ⟨d0, d1⟩ := ST4.out.cell (k := 3) rfl
  clear hm4 hp4 hv4 hc3 S3
  go_wp2_with fail
  refine (fitInt t4 _).mono ?_
  rintro e w4 ⟨rfl, rfl⟩
  go_upto_region 6 with fail
  have S4 : Hid (Cst R S w0 w [.string (strOfNums s), .slice A2 m2 c2, .int .i64 t3, .int .i64 t4, .slice none 0 0] r4.st (x4.setCell ⟨w.heap.size + 1, 3, none⟩ (.int .i64 t4))) := Lib.hid (ST4.out.set hw0 3 (.int .i64 t4))
  clear d0 d1
  generalize x4.setCell ⟨w.heap.size + 1, 3, none⟩ (.int .i64 t4) = y4 at *
  obtain ⟨r5, hr5⟩ : ∃ r, r = r4.st.bind fun _ p => rowOf S.l 16384 (instrR S.l) p := ⟨_, rfl⟩
  have HR5 := Lib.hid hr5
  have K := Lib.hid (elemsInstr R S 16384 _ (instrR S.l) (fun h => by have := instrR_in h; omega) (by omega) r4.st y4 (HFI.out.on S4.out.m0) S4.out.pl)
  rw [← hr5] at K
  have hc1 := (O1.out.moves S4.out.m0 n1).cell
  have hc4 := (O4.out.moves S4.out.m0 n4).cell
  clear hr5 ST4
  go_wp2_with fail
  refine K.out.mono ?_
  clear K
  rintro e x5 ⟨v5, rfl, hm5, hp5, ⟨A5, m5, c5, rfl⟩, hv5⟩
  have ST5 := Lib.hid (S4.out.call hm5 hp5)
  have V5 : Hid (∀ a q, r5 = .ok a q → RowT (x5.setCell ⟨w.heap.size + 1, 4, none⟩ (.slice A5 m5 c5)) 50 a.length (insV a) (.slice A5 m5 c5)) := fun a q h => (hv5 a q h).kept (KeptT.set ST5.out.var (by decide))
  have KC : Hid (KeptT 43 y4 (x5.setCell ⟨w.heap.size + 1, 4, none⟩ (.slice A5 m5 c5))) := by
    obtain ⟨cc, hcc⟩ := S4.out.pl.tag
    exact (KeptT.moves hm5 hcc (by decide)).trans (KeptT.set ST5.out.var (by decide))
  obtain ⟨d0, d1⟩ := ST5.out.cell (k := 4) rfl
  clear hm5 hp5 hv5 hc1 hc4 S4
  go_upto_region 7 with fail
  have S5 : Hid (Cst R S w0 w [.string (strOfNums s), .slice A2 m2 c2, .int .i64 t3, .int .i64 t4, .slice A5 m5 c5] r5.st (x5.setCell ⟨w.heap.size + 1, 4, none⟩ (.slice A5 m5 c5))) := Lib.hid (ST5.out.set hw0 4 (.slice A5 m5 c5))
  clear d0 d1
  generalize x5.setCell ⟨w.heap.size + 1, 4, none⟩ (.slice A5 m5 c5) = y5 at *
  have HRG := Lib.hid (range_of (cs := [.string (strOfNums s), .slice A2 m2 c2, .int .i64 t3, .int .i64 t4, .slice A5 m5 c5]) S5.out.var)
  have HTH : Hid (y5.there w.heap.size 0 5) := Lib.hid (there_cells (cs := [.string ⟨#[]⟩, .slice none 0 0, .int .i64 0, .int .i64 0, .slice none 0 0]) S5.out.res rfl)
  go_wp2_with (first | (refine wpList_load_mid rfl 46 (.tmp 6) rfl (w.heap.size + 1) 0 rfl [.string (strOfNums s), .slice A2 m2 c2, .int .i64 t3, .int .i64 t4, .slice A5 m5 c5] _ HRG.out Tryd.underlying46 rfl info46s ?_; refine Hid.out ?_) | fail)
  refine Lib.hid ?_
  go_wp2_with (refine wpList_storeN info46s rfl (.tmp 5) (.tmp 26) rfl rfl w.heap.size rfl [.string (strOfNums s), .slice A2 m2 c2, .int .i64 t3, .int .i64 t4, .slice A5 m5 c5] rfl rfl HTH.out (by simp [Value.oneCell']) ?_; intro w6 g1 g2 g3 g4 g5)
  refine bodyPost_ret (ret_cell (cs := [.string (strOfNums s), .slice A2 m2 c2, .int .i64 t3, .int .i64 t4, .slice A5 m5 c5]) Tryd.results58 Tryd.underlying46 rfl info46s _ _ w.heap.size rfl g1) rfl ?_
  have hcp := code_parts σ S.l r1 r2 r3 r4 r5 HR1.out HR2.out HR3.out HR4.out HR5.out
  have KD : ∀ T, T ≠ 46 → KeptT T y5 w6 := fun T hT b cs' fr hb => by
    rw [g4 b (by rintro rfl; rw [S5.out.res] at hb; injection hb with e; injection e with _ e _; exact hT e.symm)]
    exact hb
  refine ⟨_, rfl, S5.out.mw.low g3 (Nat.le_refl _), by rw [hcp.1]; exact S5.out.pl.low g3 hlt, ⟨_, _, _, _, _, _, _, _, _, rfl⟩, fun c q hq => ?_⟩
  obtain ⟨⟨q1, e1⟩, ⟨q2, e2⟩, ⟨q3, e3⟩, ⟨q4, e4⟩, ⟨q5, e5⟩⟩ := hcp.2 c q hq
  have f1 := V1.out _ _ e1
  have f3 := V3.out _ _ e3
  have f4 := V4.out _ _ e4
  injection f3 with _ f3
  injection f4 with _ f4
  subst f3 f4
  refine ⟨.slice A2 m2 c2, .slice A5 m5 c5, ?_, (V2.out _ _ e2).kept ((KA.out.trans (KB.out.trans KC.out)).trans (KD 43 (by decide))), (V5.out _ _ e5).kept (KD 50 (by decide)), f1.1⟩
  rw [← HSA.out _ _ e1]
  rfl

end Go.Proofs.YtecjkmemihmkcaaDoor
