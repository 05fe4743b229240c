/- The parameters of a function, as the check has them. Conditions: what is handed in lies in memory. A function, as the check has it. Conditions: what is handed in lies in memory. A program, as the check has it. Conditions: the program lies in memory. -/
import Derived.Test.YtfcpabhkconjmaaGreatDoorML
namespace Go.Proofs.YtfcpabhkconjmaaGreatDoor
section
open Go.RowKit
set_option maxRecDepth 100000
set_option linter.unusedSimpArgs false
set_option linter.unusedVariables false

abbrev xfO (name : List Nat) (P : Value) (res : Int) (Y : Value) (place : Int) : Obj := .cells #[.string (strN name), P, .int .i64 res, Y, .int .i64 place] 36
theorem xf_cells (w : World) (name : List Nat) (P : Value) (res : Int) (Y : Value) (place : Int) :
    (w.alloc (xfO name P res Y place)).cell? ⟨w.heap.size, 0, none⟩ = some (.string (strN name)) ∧ (w.alloc (xfO name P res Y place)).cell? ⟨w.heap.size, 1, none⟩ = some P ∧ (w.alloc (xfO name P res Y place)).cell? ⟨w.heap.size, 2, none⟩ = some (.int .i64 res) ∧ (w.alloc (xfO name P res Y place)).cell? ⟨w.heap.size, 3, none⟩ = some Y ∧ (w.alloc (xfO name P res Y place)).cell? ⟨w.heap.size, 4, none⟩ = some (.int .i64 place) := by
  refine ⟨?_, ?_, ?_, ?_, ?_⟩ <;> (rw [cell_of_row _ _ _ _ _ _ (heap_alloc_new w _)]; rfl)
set_option maxHeartbeats 1600000 in
theorem params1C (p : List Nat × Int) (hp : Byn p.1) (place : Int) (b b1 b2 : Nat) (sc : Scope) (w : World) (hs : Sco w b sc) (h1 : w.cell? ⟨b1, 0, none⟩ = some (.map (some b))) (h2 : w.cell? ⟨b2, 4, none⟩ = some (.int .i64 place)) (n2 : b ≠ b2) :
    Calls Tryz.prog 101 #[.agg #[.string (strN p.1), .int .i64 p.2], .pointer (some ⟨b1, 0, none⟩), .pointer (some ⟨b2, 0, none⟩)] w fun x w' => FOut (paramR place sc p).1 x w' ∧ ((paramR place sc p).1 = none → Sco w' b (paramR place sc p).2) ∧ w.grownBy w' (some b) := by
  have BA := Lib.hid (below_alloc w (.cells #[.string (strN p.1), .int .i64 p.2] 52))
  have y1 := cell_below h1 BA.out
  have y2 := cell_below h2 BA.out
  have z0 : (w.alloc (.cells #[.string (strN p.1), .int .i64 p.2] 52)).cell? ⟨w.heap.size, 0, none⟩ = some (.string (strN p.1)) := by rw [cell_of_row _ _ _ _ _ _ (heap_alloc_new w _)]; rfl
  have z1 : (w.alloc (.cells #[.string (strN p.1), .int .i64 p.2] 52)).cell? ⟨w.heap.size, 1, none⟩ = some (.int .i64 p.2) := by rw [cell_of_row _ _ _ _ _ _ (heap_alloc_new w _)]; rfl
  have KD := Lib.hid (declareC b sc p.1 hp p.2 false place _ (hs.below BA.out))
  have hbl := hs.lt
  have HN := Lib.hid n2
  have HM1 : Hid (∀ e, (declareR sc p.1 (p.2, false) place).1 = some e → (paramR place sc p).1 = some e) := fun e h => by
    rcases hd : declareR sc p.1 (p.2, false) place with ⟨x, y⟩
    rw [hd] at h
    obtain rfl : x = some e := h
    simp [paramR, hd]
  have HM2 : Hid ((declareR sc p.1 (p.2, false) place).1 = none → p.2 = 0 ∨ knownR p.2 = false → (paramR place sc p).1 = some (51, place)) := fun h h2 => by
    rcases hd : declareR sc p.1 (p.2, false) place with ⟨x, y⟩
    rw [hd] at h
    obtain rfl : x = none := h
    simp [paramR, hd, h2]
  have HM3 : Hid ((declareR sc p.1 (p.2, false) place).1 = none → ¬(p.2 = 0 ∨ knownR p.2 = false) → paramR place sc p = (none, (declareR sc p.1 (p.2, false) place).2)) := fun h h2 => by
    rcases hd : declareR sc p.1 (p.2, false) place with ⟨x, y⟩
    rw [hd] at h
    obtain rfl : x = none := h
    simp [paramR, hd, h2]
  generalize declareR sc p.1 (p.2, false) place = d at *
  generalize paramR place sc p = m at *
  clear hs h1 h2 n2
  obtain ⟨pn, pt⟩ := p
  simp only at *
  go_enter Tryz.func101, Tryz.ntmps101
  go_upto_region 1 with fail
  have HW : Hid (b < w.heap.size) := hbl
  have HW2 : Hid (w.heap.size < (w.alloc (.cells #[.string (strN pn), .int .i64 pt] 52)).heap.size) := by show _ < _; simp
  clear hbl
  generalize w.alloc (.cells #[.string (strN pn), .int .i64 pt] 52) = w0 at *
  go_wp2_with fail
  refine KD.out.mono ?_
  rintro e w1 ⟨⟨v, rfl, hv⟩, hs1, hg⟩
  have HV := Lib.hid hv
  have HS1 := Lib.hid hs1
  have u1 := cell_moves z1 hg (by have := HW.out; show b ≠ w.heap.size; omega)
  have u4 := cell_moves y2 hg (by exact HN.out)
  have HG := Lib.hid (grown_trans (grown_any BA.out (some b)) hg)
  clear hs1 hg KD z0 z1 y1 y2
  obtain ⟨d1, d2⟩ := d
  simp only at *
  cases d1 with
  | some er =>
    have HE : Hid (m.1 = some er) := HM1.out er rfl
    obtain ⟨b', rfl, _⟩ := hv
    clear u1 u4
    go_wp2
    go_ret
    exact ⟨⟨_, rfl, by rw [HE.out]; exact HV.out⟩, fun h => (by rw [HE.out] at h; cases h), HG.out⟩
  | none =>
    obtain rfl : v = .pointer none := hv
    clear HV
    by_cases h0 : pt = 0
    · have HE : Hid (m.1 = some (51, place)) := HM2.out (by first | rfl | trivial) (.inl h0)
      have q : (pt == 0) = true := by rw [beq_iff_eq]; exact h0
      clear h0
      go_wp2
      go_ret
      exact ⟨⟨_, rfl, by rw [HE.out]; exact fv_new w1 51 place⟩, fun h => (by rw [HE.out] at h; cases h), grown_trans HG.out (grown_any (below_alloc w1 _) _)⟩
    · have q : (pt == 0) = false := ne_beq h0
      have KK := Lib.hid (knownC pt w1)
      cases hkn : knownR pt with
      | true =>
        rw [hkn] at KK
        have HE : Hid (m = (none, d2)) := HM3.out (by first | rfl | trivial) (by rw [hkn]; simp [h0])
        clear h0 hkn
        go_wp2_with fail
        with_reducible refine KK.out.mono ?_
        rintro e w2 ⟨rfl, rfl⟩
        go_wp2
        go_ret
        exact ⟨⟨_, rfl, by rw [HE.out]; rfl⟩, fun _ => by rw [HE.out]; exact HS1.out, HG.out⟩
      | false =>
        rw [hkn] at KK
        have HE : Hid (m.1 = some (51, place)) := HM2.out (by first | rfl | trivial) (.inr hkn)
        clear h0 hkn
        go_wp2_with fail
        with_reducible refine KK.out.mono ?_
        rintro e w2 ⟨rfl, rfl⟩
        go_wp2
        go_ret
        exact ⟨⟨_, rfl, by rw [HE.out]; exact fv_new _ 51 place⟩, fun h => (by rw [HE.out] at h; cases h), grown_trans HG.out (grown_any (below_alloc _ _) _)⟩
/-- what the closure of the parameters keeps -/
structure ParI (B b b1 b2 : Nat) (place : Int) (l : List (List Nat × Int)) (V : Value) (sc : Scope) (w : World) : Prop where
  sco : Sco w b sc
  c1 : w.cell? ⟨b1, 0, none⟩ = some (.map (some b))
  c2 : w.cell? ⟨b2, 4, none⟩ = some (.int .i64 place)
  row : RowF w (Lo B) l.length (xpsC l) V
  n1 : b ≠ b1
  n2 : b ≠ b2
  n3 : B ≤ b
theorem ParI.below {B b b1 b2 : Nat} {place : Int} {l : List (List Nat × Int)} {V : Value} {sc : Scope} {w w' : World} (h : ParI B b b1 b2 place l V sc w) (hb : Below w.heap.size w w') : ParI B b b1 b2 place l V sc w' :=
  ⟨h.sco.below hb, cell_below h.c1 hb, cell_below h.c2 hb, h.row.same (same_below hb (by have := h.sco.lt; have := h.n3; omega)), h.n1, h.n2, h.n3⟩
theorem parFirst (l : List (List Nat × Int)) (hl : ∀ p ∈ l, Byn p.1) (B b b1 b2 : Nat) (place : Int) (V : Value) (sc : Scope) (w : World) (h : ParI B b b1 b2 place l V sc w) :
    Calls Tryz.prog 100 #[V, .func (.func 101) #[] #[.pointer (some ⟨b1, 0, none⟩), .pointer (some ⟨b2, 0, none⟩)]] w fun x w' => FOut (runL (paramR place) sc l).1 x w' ∧ ((runL (paramR place) sc l).1 = none → Sco w' b (runL (paramR place) sc l).2) ∧ w.grownBy w' (some b) := by
  refine (firstP (paramR place) (fun a => .string (strN a.1)) (fun a => .int .i64 a.2) (fun sc w => ParI B b b1 b2 place l V sc w) (some b) l V B 101 #[.pointer (some ⟨b1, 0, none⟩), .pointer (some ⟨b2, 0, none⟩)] (by intro args w; simp)
    (fun _ _ _ h hb => h.below hb) (fun _ w h => h.row) (by intro a ha u hu; simp at hu; rcases hu with rfl | rfl <;> rfl) ?_ sc w h).mono ?_
  · intro sc1 a w1 ha h1
    refine (params1C a (hl a ha) place b b1 b2 sc1 w1 h1.sco h1.c1 h1.c2 h1.n2).mono ?_
    rintro e w2 ⟨ho, hn, hg⟩
    refine ⟨ho, fun hh => ⟨hn hh, cell_moves h1.c1 hg h1.n1, cell_moves h1.c2 hg h1.n2, h1.row.same fun k hk => hg.block k (by have := h1.sco.lt; have := h1.n3; unfold Lo at hk; omega) (by intro e; injection e with e; have := h1.n3; unfold Lo at hk; omega), h1.n1, h1.n2, h1.n3⟩, hg⟩
  · rintro e w' ⟨ho, hn, hg⟩
    exact ⟨ho, fun hh => (hn hh).sco, hg⟩
set_option maxHeartbeats 800000 in
theorem paramsC (name : List Nat) (l : List (List Nat × Int)) (hl : ∀ p ∈ l, Byn p.1) (res : Int) (Y : Value) (A5 : Option Addr) (nY cY : Nat) (hY : Y = .slice A5 nY cY) (place : Int) (A : Option Addr) (c : Nat) (B b : Nat) (sc : Scope) (w : World) (hs : Sco w b sc) (hB : B ≤ b) (hr : RowF w (Lo B) l.length (xpsC l) (.slice A l.length c)) :
    Calls Tryz.prog 80 #[.agg #[.string (strN name), .slice A l.length c, .int .i64 res, Y, .int .i64 place], .map (some b)] w fun x w' => FOut (runL (paramR place) sc l).1 x w' ∧ ((runL (paramR place) sc l).1 = none → Sco w' b (runL (paramR place) sc l).2) ∧ w.grownBy w' (some b) := by
  subst hY
  have hbl := hs.lt
  have BA1 := below_alloc w (xfO name (.slice A l.length c) res (.slice A5 nY cY) place)
  have BA2 := below_alloc (w.alloc (xfO name (.slice A l.length c) res (.slice A5 nY cY) place)) (.cells #[.map (some b)] 118)
  have BA := bthen5 BA1 BA2 BA1.size
  have HB := Lib.hid BA
  obtain ⟨z0, z1, z2, z3, z4⟩ := xf_cells w name (.slice A l.length c) res (.slice A5 nY cY) place
  have e2 : ((w.alloc (xfO name (.slice A l.length c) res (.slice A5 nY cY) place)).alloc (.cells #[.map (some b)] 118)).cell? ⟨w.heap.size + 1, 0, none⟩ = some (.map (some b)) := by
    rw [show w.heap.size + 1 = (w.alloc (xfO name (.slice A l.length c) res (.slice A5 nY cY) place)).heap.size by simp, cell_of_row _ _ _ _ _ _ (heap_alloc_new _ _)]; rfl
  have K := Lib.hid (parFirst l hl B b (w.heap.size + 1) w.heap.size place (.slice A l.length c) sc _ ⟨hs.below BA, e2, cell_below z4 BA2, hr.same (same_below BA (by omega)), by omega, by omega, hB⟩)
  have y1 := cell_below z1 BA2
  have hmf := hmf5
  generalize runL (paramR place) sc l = m at *
  clear hs hr BA1 BA2 BA e2 z0 z1 z2 z3 z4 hbl hB
  go_enter Tryz.func80, Tryz.ntmps80
  go_upto_region 1 with fail
  generalize (w.alloc (.cells #[.string (strN name), .slice A l.length c, .int .i64 res, .slice A5 nY cY, .int .i64 place] 36)).alloc (.cells #[.map (some b)] 118) = w0 at *
  go_wp2_with fail
  with_reducible refine K.out.mono ?_
  rintro e w1 ⟨⟨v, rfl, hv⟩, hn, hg⟩
  have HV := Lib.hid hv
  have HN := Lib.hid hn
  have HG := Lib.hid (grown_trans (grown_any HB.out (some b)) hg)
  clear hv hn hg K HB y1
  go_wp2
  go_ret
  exact ⟨⟨_, rfl, HV.out⟩, HN.out, HG.out⟩
end

section
open Go.RowKit
set_option maxRecDepth 100000
set_option linter.unusedSimpArgs false
set_option linter.unusedVariables false

/-- the functions of the program, by name -/
def Tb (w : World) (B g : Nat) (fs : List Xf) : Prop := ∃ ks : List Two, ks.length = fs.length ∧ MapAt w g (tabC fs ks) ∧ ∀ (i : Nat) (f : Xf) (k : Two), fs[i]? = some f → ks[i]? = some k → RowF w (Lo B) f.params.length (xpsC f.params) k.p ∧ ∃ A n c, k.b = .slice A n c
theorem Tb.lt {w : World} {B g : Nat} {fs : List Xf} (h : Tb w B g fs) : g < w.heap.size := by obtain ⟨ks, _, h, _⟩ := h; exact h.lt
theorem Tb.below {w w' : World} {B g : Nat} {fs : List Xf} (h : Tb w B g fs) (hb : Below w.heap.size w w') (hg : B ≤ g) : Tb w' B g fs := by
  have hl := h.lt
  obtain ⟨ks, h1, h2, h3⟩ := h
  exact ⟨ks, h1, h2.of (hb.block _ hl), fun i f k a b => ⟨(h3 i f k a b).1.same (same_below hb (by omega)), (h3 i f k a b).2⟩⟩
def bigR (f : Xf) : Bool := decide (f.params.length > 16 ∨ wrap64 (f.params.length + dcl f.body 0) > 64)
set_option maxHeartbeats 6400000 in
theorem funC (f : Xf) (A2 A3 : Option Addr) (c2 c3 : Nat) (B g : Nat) (fs : List Xf) (w : World) (hg : B ≤ g) (ht : Tb w B g fs) (hk : XfK w (Lo B) f ⟨.slice A2 f.params.length c2, .slice A3 f.body.length c3⟩) :
    Calls Tryz.prog 47 #[.agg #[.string (strN f.name), .slice A2 f.params.length c2, .int .i64 f.result, .slice A3 f.body.length c3, .int .i64 f.place], .map (some g)] w fun x w' => FOut (funM (tabOf fs) f) x w' ∧ Below w.heap.size w w' := by
  have hB : B ≤ w.heap.size := by have := ht.lt; omega
  have hgl := ht.lt
  have BA1 := below_alloc w (xfO f.name (.slice A2 f.params.length c2) f.result (.slice A3 f.body.length c3) f.place)
  have BA2 := below_alloc (w.alloc (xfO f.name (.slice A2 f.params.length c2) f.result (.slice A3 f.body.length c3) f.place)) (.map #[] 0)
  have BA := bthen5 BA1 BA2 BA1.size
  have HB0 := Lib.hid BA
  obtain ⟨z0, z1, z2, z3, z4⟩ := xf_cells w f.name (.slice A2 f.params.length c2) f.result (.slice A3 f.body.length c3) f.place
  have hsc : Sco ((w.alloc (xfO f.name (.slice A2 f.params.length c2) f.result (.slice A3 f.body.length c3) f.place)).alloc (.map #[] 0)) (w.heap.size + 1) [] := by
    have := MapAt.made (w.alloc (xfO f.name (.slice A2 f.params.length c2) f.result (.slice A3 f.body.length c3) f.place))
    rw [show (w.alloc (xfO f.name (.slice A2 f.params.length c2) f.result (.slice A3 f.body.length c3) f.place)).heap.size = w.heap.size + 1 by simp] at this
    exact this
  have KP := Lib.hid (paramsC f.name f.params hk.names f.result (.slice A3 f.body.length c3) A3 _ c3 rfl f.place A2 c2 B (w.heap.size + 1) [] _ hsc (by omega) (hk.params.same (same_below BA hB)))
  have HTb : Hid (∀ w', Below w.heap.size w w' → Tb w' B g fs) := fun w' hb => ht.below hb hg
  have HBod : Hid (∀ w', Below w.heap.size w w' → XssC w' (Lo B) f.body (.slice A3 f.body.length c3)) := fun w' hb => hk.body.same (same_below hb hB)
  have HM0 : Hid (∀ e, (paramsR f).1 = some e → funM (tabOf fs) f = some e) := fun e h => by
    rcases hd : paramsR f with ⟨x, y⟩
    rw [hd] at h
    obtain rfl : x = some e := h
    simp [funM, hd]
  have HM1 : Hid (∀ sc, paramsR f = (none, sc) → knownR f.result = false → funM (tabOf fs) f = some (51, f.place)) := fun sc hd h => by simp [funM, hd, h]
  have HM2 : Hid (∀ sc, paramsR f = (none, sc) → knownR f.result = true → bigR f = true → funM (tabOf fs) f = some (2, f.place)) := fun sc hd h h2 => by
    have := of_decide_eq_true h2
    simp only [funM, hd, h]
    rw [if_neg (by simp), if_pos this]
  have HM3 : Hid (∀ sc e, paramsR f = (none, sc) → knownR f.result = true → bigR f = false → (blockM (tabOf fs) f.result f.body sc).1 = some e → funM (tabOf fs) f = some e) := fun sc e hd h h2 h3 => by
    have := of_decide_eq_false h2
    simp only [funM, hd, h]
    rw [if_neg (by simp), if_neg this]
    simp [h3]
  have HM4 : Hid (∀ sc, paramsR f = (none, sc) → knownR f.result = true → bigR f = false → (blockM (tabOf fs) f.result f.body sc).1 = none → funM (tabOf fs) f = if f.result ≠ 0 ∧ endsM f.body = false then some (54, f.place) else none) := fun sc hd h h2 h3 => by
    have := of_decide_eq_false h2
    simp only [funM, hd, h]
    rw [if_neg (by simp), if_neg this]
    simp [h3]
  have HPar : Hid (runL (paramR f.place) [] f.params = paramsR f) := rfl
  rw [HPar.out] at KP
  have hmm : ∀ (t : TypeId) (w : World), (Instr.makeMap t none).run Tryz.prog w = .ok (.map (some w.heap.size)) (w.alloc (.map #[] 0)) := fun t w => run_makeMap t w
  generalize funM (tabOf fs) f = m at *
  generalize hPR : paramsR f = pr at *
  have HbigE : Hid (bigR f = decide (f.params.length > 16 ∨ wrap64 (f.params.length + dcl f.body 0) > 64)) := rfl
  clear ht hk BA hsc hPR
  have y0 := cell_below z0 BA2
  have y1 := cell_below z1 BA2
  have y2 := cell_below z2 BA2
  have y3 := cell_below z3 BA2
  have y4 := cell_below z4 BA2
  clear z0 z1 z2 z3 z4 BA1 BA2
  go_enter Tryz.func47, Tryz.ntmps47
  go_upto_region 2 with fail
  generalize (w.alloc (.cells #[.string (strN f.name), .slice A2 f.params.length c2, .int .i64 f.result, .slice A3 f.body.length c3, .int .i64 f.place] 36)).alloc (.map #[] 0) = w0 at *
  go_wp2_with fail
  with_reducible refine KP.out.mono ?_
  rintro e w1 ⟨⟨v, rfl, hv⟩, hn, hgr⟩
  have HV := Lib.hid hv
  have HN := Lib.hid hn
  have x2 := cell_moves y2 hgr (by show w.heap.size + 1 ≠ w.heap.size; omega)
  have x3 := cell_moves y3 hgr (by show w.heap.size + 1 ≠ w.heap.size; omega)
  have x4 := cell_moves y4 hgr (by show w.heap.size + 1 ≠ w.heap.size; omega)
  have x1 := cell_moves y1 hgr (by show w.heap.size + 1 ≠ w.heap.size; omega)
  have B1 := Lib.hid (grown_low HB0.out hgr (by omega) HB0.out.size)
  clear hn hgr KP y0 y1 y2 y3 y4 HB0
  obtain ⟨pe, sc⟩ := pr
  simp only at *
  cases pe with
  | some er =>
    have HE : Hid (m = some er) := HM0.out er rfl
    obtain ⟨b', rfl, _⟩ := hv
    clear x1 x2 x3 x4
    go_wp2
    go_ret
    exact ⟨⟨_, rfl, by rw [HE.out]; exact HV.out⟩, B1.out⟩
  | none =>
    obtain rfl : v = .pointer none := hv
    have HS1 : Hid (Sco w1 (w.heap.size + 1) sc) := HN.out (by first | rfl | trivial)
    have KK := Lib.hid (knownC f.result w1)
    clear HV HN HM0
    cases hkn : knownR f.result with
    | false =>
      rw [hkn] at KK
      have HE : Hid (m = some (51, f.place)) := HM1.out sc rfl hkn
      clear hkn x1 x3
      go_wp2_with fail
      with_reducible refine KK.out.mono ?_
      rintro e w2 ⟨rfl, rfl⟩
      go_wp2
      go_ret
      exact ⟨⟨_, rfl, by rw [HE.out]; exact fv_new _ 51 f.place⟩, B1.out.alloc B1.out.size _⟩
    | true =>
      rw [hkn] at KK
      have HMb : Hid (bigR f = true → m = some (2, f.place)) := HM2.out sc rfl hkn
      replace HM3 := Lib.hid (fun e => HM3.out sc e rfl hkn)
      replace HM4 := Lib.hid (HM4.out sc rfl hkn)
      clear hkn HM1 HM2
      go_wp2_with fail
      with_reducible refine KK.out.mono ?_
      rintro e w2 ⟨rfl, rfl⟩
      go_upto_region 7 with fail
      have hbl : Below w2.heap.size w2 w2.drew := (Below.refl _ _).drew
      have HQ : Hid (∀ w', Below w2.heap.size w2 w' → w'.cell? ⟨w.heap.size, 1, none⟩ = some (.slice A2 f.params.length c2) ∧ w'.cell? ⟨w.heap.size, 3, none⟩ = some (.slice A3 f.body.length c3)) := fun w' hb => ⟨cell_below x1 hb, cell_below x3 hb⟩
      have KD : Hid (∀ w', Below w2.heap.size w2 w' → Calls Tryz.prog 82 #[.slice A3 f.body.length c3] w' fun e w'' => e = .returned (.int .i64 (dcl f.body 0)) ∧ Below w'.heap.size w' w'') := fun w' hb => dcT f.body _ w' B (by have := hb.size; have := B1.out.size; omega) (HBod.out w' (bthen5 B1.out hb B1.out.size))
      go_cut [37] (fun a wx => a = .bool (bigR f) ∧ Below w2.heap.size w2 wx)
      case first =>
        by_cases h16 : f.params.length > 16
        · have q : (16 : Int) < f.params.length := by omega
          have HE : Hid (bigR f = true) := by show _ = _; rw [HbigE.out]; exact decide_eq_true (.inl h16)
          clear h16
          go_quiet (fail)
          go_wp2_with fail
          go_meet
          exact ⟨by rw [HE.out], below_drewN (Below.refl _ _) _⟩
        · have q : ¬ (16 : Int) < f.params.length := by omega
          have HE : Hid (bigR f = decide ((64 : Int) < wrap64 (f.params.length + dcl f.body 0))) := by
            show _ = _
            rw [HbigE.out]
            exact decide_eq_decide.2 ⟨fun h => h.resolve_left h16, .inr⟩
          clear h16
          go_region_held3 (fun w' => w'.cell? ⟨w.heap.size, 1, none⟩ = some (.slice A2 f.params.length c2) ∧ w'.cell? ⟨w.heap.size, 3, none⟩ = some (.slice A3 f.body.length c3))
            (with_reducible exact HQ.out _ hbl)
            (first | (go_at_call 82; refine (KD.out _ hbl).mono ?_; rintro e wn ⟨rfl, hbn⟩; replace hbl := bthen5 hbl hbn hbl.size))
          all_goals (go_wp2_with fail; go_meet)
          all_goals exact ⟨by rw [HE.out, IntWalk.i64_left], hbl⟩
      case rest =>
        obtain ⟨rfl, hbw⟩ := hcut
        replace x2 := cell_below x2 hbw
        replace x3 := cell_below x3 hbw
        replace x4 := cell_below x4 hbw
        have HS3 := Lib.hid (HS1.out.below hbw)
        have B3 := Lib.hid (bthen5 B1.out hbw B1.out.size)
        clear hbw hbl HQ KD x1 HS1 B1 KK
        cases hbg : bigR f with
        | true =>
          have HE : Hid (m = some (2, f.place)) := HMb.out hbg
          clear hbg x2 x3
          go_wp2
          go_ret
          exact ⟨⟨_, rfl, by rw [HE.out]; exact fv_new _ 2 f.place⟩, B3.out.alloc B3.out.size _⟩
        | false =>
          replace HM3 := Lib.hid (fun e => HM3.out e hbg)
          replace HM4 := Lib.hid (HM4.out hbg)
          clear hbg HMb
          go_upto_region 10 with fail
          have BC := below_alloc wc (.cells #[.map (some g), .int .i64 f.result] 124)
          have hsl := HS3.out.lt
          have HCx : Cx (wc.alloc (.cells #[.map (some g), .int .i64 f.result] 124)) B wc.heap.size g fs f.result :=
            ⟨heap_alloc_new wc _, HTb.out _ (bthen5 B3.out BC B3.out.size), by have := B3.out.size; omega, hg⟩
          have HBlk := Lib.hid (blockC f.body (fun s _ => scT s) B wc.heap.size g (w.heap.size + 1) fs f.result sc _ _ HCx (HS3.out.below BC) (by omega) (by omega) (by omega) (HBod.out _ (bthen5 B3.out BC B3.out.size)))
          replace x2 := cell_below x2 BC
          replace x3 := cell_below x3 BC
          replace x4 := cell_below x4 BC
          have B4 := Lib.hid (bthen5 B3.out BC B3.out.size)
          clear BC HCx hsl HS3 B3
          generalize wc.alloc (.cells #[.map (some g), .int .i64 f.result] 124) = w4 at *
          generalize wc.heap.size = cB at *
          go_wp2_with fail
          with_reducible refine HBlk.out.mono ?_
          rintro e w5 ⟨⟨v, rfl, hv⟩, _, hgr⟩
          have HV := Lib.hid hv
          replace x2 := cell_moves x2 hgr (by show w.heap.size + 1 ≠ w.heap.size; omega)
          replace x3 := cell_moves x3 hgr (by show w.heap.size + 1 ≠ w.heap.size; omega)
          replace x4 := cell_moves x4 hgr (by show w.heap.size + 1 ≠ w.heap.size; omega)
          have B5 := Lib.hid (grown_low B4.out hgr (by omega) B4.out.size)
          clear hgr HBlk B4
          generalize (blockM (tabOf fs) f.result f.body sc).1 = r5 at *
          cases r5 with
          | some er =>
            have HE : Hid (m = some er) := HM3.out er rfl
            obtain ⟨b', rfl, _⟩ := hv
            clear x2 x3 x4
            go_wp2
            go_ret
            exact ⟨⟨_, rfl, by rw [HE.out]; exact HV.out⟩, B5.out⟩
          | none =>
            obtain rfl : v = .pointer none := hv
            have HE : Hid (m = if f.result ≠ 0 ∧ endsM f.body = false then some (54, f.place) else none) := HM4.out (by first | rfl | trivial)
            have KE := Lib.hid (endT f.body (.slice A3 f.body.length c3) w5 B (by have := B5.out.size; omega) (HBod.out _ B5.out))
            clear HV HM3 HM4
            by_cases h0 : f.result = 0
            · have q : (f.result != 0) = false := by rw [h0]; rfl
              have HE2 : Hid (m = none) := by show _ = _; rw [HE.out, if_neg (by simp [h0])]
              clear h0 HE KE
              go_wp2
              go_ret
              exact ⟨⟨_, rfl, by rw [HE2.out]; rfl⟩, B5.out⟩
            · have q : (f.result != 0) = true := by rw [bne_iff_ne]; exact h0
              cases hen : endsM f.body with
              | true =>
                rw [hen] at KE
                have HE2 : Hid (m = none) := by show _ = _; rw [HE.out, if_neg (by simp [hen])]
                clear h0 HE hen
                go_wp2_with fail
                with_reducible refine KE.out.mono ?_
                rintro e w6 ⟨rfl, b6⟩
                have B6 := Lib.hid (bthen5 B5.out b6 B5.out.size)
                clear b6 x2 x3 x4
                go_wp2
                go_ret
                exact ⟨⟨_, rfl, by rw [HE2.out]; rfl⟩, B6.out⟩
              | false =>
                rw [hen] at KE
                have HE2 : Hid (m = some (54, f.place)) := by show _ = _; rw [HE.out, if_pos ⟨h0, hen⟩]
                clear h0 HE hen
                go_wp2_with fail
                with_reducible refine KE.out.mono ?_
                rintro e w6 ⟨rfl, b6⟩
                have B6 := Lib.hid (bthen5 B5.out b6 B5.out.size)
                replace x4 := cell_below x4 b6
                clear b6 x2 x3
                go_wp2
                go_ret
                exact ⟨⟨_, rfl, by rw [HE2.out]; exact fv_new _ 54 f.place⟩, B6.out.alloc B6.out.size _⟩
end

section
open Go.RowKit
set_option maxRecDepth 100000
set_option linter.unusedSimpArgs false
set_option linter.unusedVariables false

theorem tabC_snoc (fs : List Xf) (ks : List Two) (h : ks.length = fs.length) (f : Xf) (k : Two) : tabC (fs ++ [f]) (ks ++ [k]) = tabC fs ks ++ [(f.name, .agg (xfC f k.p k.b).toArray)] := by
  unfold tabC
  rw [List.zipWith_append h.symm]
  rfl
def stepZ : List Xf × List Two → Xf × Two → Er × (List Xf × List Two) := fun s a => if s.1.any (fun g => g.name == a.1.name) then (some (53, a.1.place), s) else (none, (s.1 ++ [a.1], s.2 ++ [a.2]))
theorem runZ : ∀ (fs : List Xf) (ks : List Two) (s : List Xf × List Two), ks.length = fs.length → (runL stepZ s (fs.zip ks)).1 = (runL twiceR s.1 fs).1 ∧ ((runL stepZ s (fs.zip ks)).1 = none → (runL stepZ s (fs.zip ks)).2 = (s.1 ++ fs, s.2 ++ ks))
  | [], [], s, _ => by simp [runL]
  | [], k :: ks, s, h => by simp at h
  | f :: fs, [], s, h => by simp at h
  | f :: fs, k :: ks, s, h => by
    have ih := runZ fs ks (s.1 ++ [f], s.2 ++ [k]) (by simpa using h)
    rw [List.zip_cons_cons]
    by_cases ha : s.1.any (fun g => g.name == f.name) = true
    · have h1 : stepZ s (f, k) = (some (53, f.place), s) := if_pos ha
      have h2 : twiceR s.1 f = (some (53, f.place), s.1) := if_pos ha
      unfold runL
      rw [h1, h2]
      exact ⟨rfl, fun h => by cases h⟩
    · have h1 : stepZ s (f, k) = (none, (s.1 ++ [f], s.2 ++ [k])) := if_neg ha
      have h2 : twiceR s.1 f = (none, s.1 ++ [f]) := if_neg ha
      unfold runL
      rw [h1, h2]
      refine ⟨ih.1, fun h => ?_⟩
      have := ih.2 h
      rw [this]
      simp
def stepY (T : Tab5) : Unit → Xf × Two → Er × Unit := fun _ a => (funM T a.1, ())
theorem runY (T : Tab5) : ∀ (fs : List Xf) (ks : List Two), ks.length = fs.length → (runL (stepY T) () (fs.zip ks)).1 = (runL (fun (_ : Unit) f => (funM T f, ())) () fs).1
  | [], [], _ => by simp [runL]
  | [], k :: ks, h => by simp at h
  | f :: fs, [], h => by simp at h
  | f :: fs, k :: ks, h => by
    have ih := runY T fs ks (by simpa using h)
    rw [List.zip_cons_cons]
    unfold runL
    rcases hm : funM T f with _ | e
    · have h1 : stepY T () (f, k) = (none, ()) := by simp [stepY, hm]
      rw [h1]
      exact ih
    · have h1 : stepY T () (f, k) = (some e, ()) := by simp [stepY, hm]
      rw [h1]
theorem xfsC_zip : ∀ (l : List Xf) (ks : List Two), xfsC l ks = (l.zip ks).flatMap fun a => xfC a.1 a.2.p a.2.b
  | [], _ => by simp [xfsC]
  | _ :: _, [] => by simp [xfsC]
  | e :: l, k :: ks => by
    have := xfsC_zip l ks
    unfold xfsC at this ⊢
    rw [List.zipWith_cons_cons, List.flatten_cons, this, List.zip_cons_cons, List.flatMap_cons]
theorem find_any (s : List Nat) (fs : List Xf) (h : fs.find? (fun f => f.name == s) = none) : fs.any (fun g => g.name == s) = false := by
  rw [List.any_eq_false]
  intro x hx
  have := List.find?_eq_none.1 h x hx
  simpa using this
theorem find_any' (s : List Nat) (fs : List Xf) (f : Xf) (h : fs.find? (fun f => f.name == s) = some f) : fs.any (fun g => g.name == s) = true := by
  rw [List.any_eq_true]
  have h1 := List.find?_some h
  exact ⟨f, List.mem_of_find?_eq_some h, h1⟩
set_option maxHeartbeats 1600000 in
theorem prog1C (f : Xf) (hn : Byn f.name) (A2 A3 : Option Addr) (c2 c3 : Nat) (g b1 : Nat) (fsA : List Xf) (ksA : List Two) (hk : ksA.length = fsA.length) (hsl : ∀ k ∈ ksA, (∃ A n c, k.p = .slice A n c) ∧ ∃ A n c, k.b = .slice A n c) (w : World) (hm : MapAt w g (tabC fsA ksA)) (h1 : w.cell? ⟨b1, 0, none⟩ = some (.map (some g))) (n1 : g ≠ b1) :
    Calls Tryz.prog 45 #[.agg #[.string (strN f.name), .slice A2 f.params.length c2, .int .i64 f.result, .slice A3 f.body.length c3, .int .i64 f.place], .pointer (some ⟨b1, 0, none⟩)] w fun x w' =>
      FOut (stepZ (fsA, ksA) (f, ⟨.slice A2 f.params.length c2, .slice A3 f.body.length c3⟩)).1 x w' ∧ ((stepZ (fsA, ksA) (f, ⟨.slice A2 f.params.length c2, .slice A3 f.body.length c3⟩)).1 = none → MapAt w' g (tabC (stepZ (fsA, ksA) (f, ⟨.slice A2 f.params.length c2, .slice A3 f.body.length c3⟩)).2.1 (stepZ (fsA, ksA) (f, ⟨.slice A2 f.params.length c2, .slice A3 f.body.length c3⟩)).2.2)) ∧ w.grownBy w' (some g) := by
  have hgl := hm.lt
  have BA1 := below_alloc w (xfO f.name (.slice A2 f.params.length c2) f.result (.slice A3 f.body.length c3) f.place)
  have BA := Lib.hid BA1
  obtain ⟨z0, z1, z2, z3, z4⟩ := xf_cells w f.name (.slice A2 f.params.length c2) f.result (.slice A3 f.body.length c3) f.place
  have y1 := cell_below h1 BA1
  have hm1 := MapAt.of hm (BA1.block _ hgl)
  have HMp := Lib.hid hm1
  have hrun := run_look97 hm1 hn
  have HL : Hid (w.heap.size < (w.alloc (xfO f.name (.slice A2 f.params.length c2) f.result (.slice A3 f.body.length c3) f.place)).heap.size) := by show _ < _; simp
  have HGL := Lib.hid hgl
  rcases seek_tab f.name fsA ksA hk with ⟨hf, hsk⟩ | ⟨i, f', k', _, hki, hf, hsk⟩
  · have HE : Hid (stepZ (fsA, ksA) (f, ⟨.slice A2 f.params.length c2, .slice A3 f.body.length c3⟩) = (none, (fsA ++ [f], ksA ++ [⟨.slice A2 f.params.length c2, .slice A3 f.body.length c3⟩]))) := by
      show _ = _
      unfold stepZ
      rw [if_neg (by rw [show (fsA, ksA).1 = fsA from rfl, find_any _ _ hf]; simp)]
    have HSK := Lib.hid hsk
    rw [hsk] at hrun
    simp only [Option.getD_none, Option.isSome_none] at hrun
    have HK := Lib.hid hk
    have HNm := Lib.hid hn
    clear hm h1 hm1 hf hsk BA1 hk hn n1 hgl
    go_enter Tryz.func45, Tryz.ntmps45
    go_upto_region 1 with fail
    generalize w.alloc (.cells #[.string (strN f.name), .slice A2 f.params.length c2, .int .i64 f.result, .slice A3 f.body.length c3, .int .i64 f.place] 36) = w0 at *
    go_upto_region 4 with fail
    have B2 := below_alloc w0 (.cells #[.string ⟨#[]⟩, .slice none 0 0, .int .i64 0, .slice none 0 0, .int .i64 0] 36)
    have x0 := cell_below z0 B2
    have x1 := cell_below z1 B2
    have x2 := cell_below z2 B2
    have x3 := cell_below z3 B2
    have x4 := cell_below z4 B2
    have u1 := cell_below y1 B2
    have HM2 := Lib.hid (MapAt.of HMp.out (B2.block _ HMp.out.lt))
    have HB := Lib.hid (bthen5 BA.out B2 BA.out.size)
    clear z0 z1 z2 z3 z4 y1 B2 BA HMp hrun
    generalize w0.alloc (.cells #[.string ⟨#[]⟩, .slice none 0 0, .int .i64 0, .slice none 0 0, .int .i64 0] 36) = w1 at *
    obtain ⟨w2, hup, hm2, hg2, hz2⟩ := run_update HM2.out HNm.out HSK.out Tryz.underlying97 (.agg #[.string (strN f.name), .slice A2 f.params.length c2, .int .i64 f.result, .slice A3 f.body.length c3, .int .i64 f.place])
    have HM3 := Lib.hid hm2
    have HG := Lib.hid (grown_trans (grown_any HB.out (some g)) hg2)
    clear hm2 hg2 hz2 HM2
    go_wp2
    go_ret
    exact ⟨⟨_, rfl, by rw [HE.out]; rfl⟩, fun _ => by rw [HE.out, tabC_snoc _ _ HK.out]; exact HM3.out, HG.out⟩
  · have HE : Hid (stepZ (fsA, ksA) (f, ⟨.slice A2 f.params.length c2, .slice A3 f.body.length c3⟩) = (some (53, f.place), (fsA, ksA))) := by
      show _ = _
      unfold stepZ
      rw [if_pos (find_any' _ _ _ hf)]
    rw [hsk] at hrun
    simp only [Option.getD_some, Option.isSome_some] at hrun
    obtain ⟨⟨A6, n6, c6, h6⟩, A7, n7, c7, h7⟩ := hsl k' (List.mem_of_getElem? hki)
    unfold xfC at hrun
    rw [h6, h7] at hrun
    clear hm h1 hm1 hf hsk BA1 hk hn n1 hgl h6 h7 hki hsl
    go_enter Tryz.func45, Tryz.ntmps45
    go_upto_region 1 with fail
    generalize w.alloc (.cells #[.string (strN f.name), .slice A2 f.params.length c2, .int .i64 f.result, .slice A3 f.body.length c3, .int .i64 f.place] 36) = w0 at *
    go_upto_region 3 with fail
    have B2 := below_alloc w0 (.cells #[.string (strN f'.name), .slice A6 n6 c6, .int .i64 f'.result, .slice A7 n7 c7, .int .i64 f'.place] 36)
    have x4 := cell_below z4 B2
    have HB := Lib.hid (bthen5 BA.out B2 BA.out.size)
    clear z0 z1 z2 z3 z4 y1 B2 BA hrun
    generalize w0.alloc (.cells #[.string (strN f'.name), .slice A6 n6 c6, .int .i64 f'.result, .slice A7 n7 c7, .int .i64 f'.place] 36) = w1 at *
    go_wp2
    go_ret
    exact ⟨⟨_, rfl, by rw [HE.out]; exact fv_new w1 53 f.place⟩, fun h => (by rw [HE.out] at h; cases h), grown_any (HB.out.alloc HB.out.size _) _⟩
theorem xssC_len {w : World} {D : Nat → Prop} {l : List Xs} {V : Value} (h : XssC w D l V) : ∃ A n c, V = .slice A n c := by obtain ⟨A, c, e⟩ := xssC_slice h; exact ⟨A, _, c, e⟩
/-- what the first closure keeps: the functions so far, and the rows -/
structure PgI (B g b1 : Nat) (fs : List Xf) (ks : List Two) (V : Value) (s : List Xf × List Two) (w : World) : Prop where
  len : s.2.length = s.1.length
  map : MapAt w g (tabC s.1 s.2)
  sl : ∀ k ∈ s.2, (∃ A n c, k.p = .slice A n c) ∧ ∃ A n c, k.b = .slice A n c
  c1 : w.cell? ⟨b1, 0, none⟩ = some (.map (some g))
  row : XfsC w (Lo B) fs ks V
  n1 : g ≠ b1
  n2 : B ≤ g
theorem PgI.below {B g b1 : Nat} {fs : List Xf} {ks : List Two} {V : Value} {s : List Xf × List Two} {w w' : World} (h : PgI B g b1 fs ks V s w) (hb : Below w.heap.size w w') : PgI B g b1 fs ks V s w' :=
  ⟨h.len, h.map.of (hb.block _ h.map.lt), h.sl, cell_below h.c1 hb, h.row.same (same_below hb (by have := h.map.lt; have := h.n2; omega)), h.n1, h.n2⟩
theorem pgFirst (B g b1 : Nat) (fs : List Xf) (ks : List Two) (V : Value) (s : List Xf × List Two) (w : World) (h : PgI B g b1 fs ks V s w) :
    Calls Tryz.prog 44 #[V, .func (.func 45) #[] #[.pointer (some ⟨b1, 0, none⟩)]] w fun x w' => FOut (runL stepZ s (fs.zip ks)).1 x w' ∧ ((runL stepZ s (fs.zip ks)).1 = none → PgI B g b1 fs ks V (runL stepZ s (fs.zip ks)).2 w') ∧ w.grownBy w' (some g) := by
  have hz : (fs.zip ks).length = fs.length := by rw [List.length_zip]; have := h.row.1; omega
  refine firstF stepZ (fun a => .string (strN a.1.name)) (fun a => a.2.p) (fun a => .int .i64 a.1.result) (fun a => a.2.b) (fun a => .int .i64 a.1.place) (fun s w => PgI B g b1 fs ks V s w) (some g) (fs.zip ks) V B 45 #[.pointer (some ⟨b1, 0, none⟩)] (by intro args w; simp)
    (fun _ _ _ h hb => h.below hb) (fun _ w h => ?_) ?_ ?_ s w h
  · rw [hz]
    have := h.row.2.1
    rw [xfsC_zip] at this
    exact this
  · intro a ha u hu
    obtain ⟨i, g1, g2⟩ := zip_mem ha
    have hx := h.row.2.2 i a.1 a.2 g1 g2
    obtain ⟨A2, c2, e2⟩ := hx.params.slice5
    obtain ⟨A3, n3, c3, e3⟩ := xssC_len hx.body
    simp at hu
    rcases hu with rfl | rfl | rfl | rfl | rfl <;> first | rfl | (rw [e2]; rfl) | (rw [e3]; rfl)
  · intro s1 a w1 ha h1
    obtain ⟨i, g1, g2⟩ := zip_mem ha
    have hx := h1.row.2.2 i a.1 a.2 g1 g2
    obtain ⟨A2, c2, e2⟩ := hx.params.slice5
    obtain ⟨A3, c3, e3⟩ := xssC_slice hx.body
    obtain ⟨f, k⟩ := a
    obtain ⟨kp, kb⟩ := k
    simp only at e2 e3 hx
    subst e2 e3
    obtain ⟨fsA, ksA⟩ := s1
    refine (prog1C f hx.name A2 A3 c2 c3 g b1 fsA ksA h1.len h1.sl w1 h1.map h1.c1 h1.n1).mono ?_
    rintro e w2 ⟨ho, hm, hg⟩
    refine ⟨ho, fun hh => ⟨?_, hm hh, ?_, cell_moves h1.c1 hg h1.n1, h1.row.same fun k hk => hg.block k (by have := h1.map.lt; have := h1.n2; unfold Lo at hk; omega) (by intro e; injection e with e; have := h1.n2; unfold Lo at hk; omega), h1.n1, h1.n2⟩, hg⟩
    · have hl := h1.len
      unfold stepZ at hh ⊢
      split at hh
      · cases hh
      · rename_i hq
        rw [if_neg hq]
        simpa using hl
    · have hl := h1.sl
      unfold stepZ at hh ⊢
      split at hh
      · cases hh
      · rename_i hq
        rw [if_neg hq]
        intro k hk
        rcases List.mem_append.1 hk with hk | hk
        · exact hl k hk
        · simp at hk
          subst hk
          exact ⟨⟨_, _, _, rfl⟩, _, _, _, rfl⟩
set_option maxHeartbeats 800000 in
theorem prog2C (f : Xf) (A2 A3 : Option Addr) (c2 c3 : Nat) (B g b1 : Nat) (fs : List Xf) (w : World) (hg : B ≤ g) (ht : Tb w B g fs) (hk : XfK w (Lo B) f ⟨.slice A2 f.params.length c2, .slice A3 f.body.length c3⟩) (h1 : w.cell? ⟨b1, 0, none⟩ = some (.map (some g))) :
    Calls Tryz.prog 46 #[.agg #[.string (strN f.name), .slice A2 f.params.length c2, .int .i64 f.result, .slice A3 f.body.length c3, .int .i64 f.place], .pointer (some ⟨b1, 0, none⟩)] w fun x w' => FOut (funM (tabOf fs) f) x w' ∧ Below w.heap.size w w' := by
  have BA1 := below_alloc w (xfO f.name (.slice A2 f.params.length c2) f.result (.slice A3 f.body.length c3) f.place)
  have BA := Lib.hid BA1
  obtain ⟨z0, z1, z2, z3, z4⟩ := xf_cells w f.name (.slice A2 f.params.length c2) f.result (.slice A3 f.body.length c3) f.place
  have y1 := cell_below h1 BA1
  have K := Lib.hid (funC f A2 A3 c2 c3 B g fs _ hg (ht.below BA1 hg) (hk.same (same_below BA1 (by have := ht.lt; omega))))
  generalize funM (tabOf fs) f = m at *
  clear ht hk h1 BA1
  go_enter Tryz.func46, Tryz.ntmps46
  go_upto_region 1 with fail
  generalize w.alloc (.cells #[.string (strN f.name), .slice A2 f.params.length c2, .int .i64 f.result, .slice A3 f.body.length c3, .int .i64 f.place] 36) = w0 at *
  go_wp2_with fail
  with_reducible refine K.out.mono ?_
  rintro e w1 ⟨⟨v, rfl, hv⟩, b1'⟩
  have HV := Lib.hid hv
  have HB := Lib.hid (bthen5 BA.out b1' BA.out.size)
  clear hv b1' K z0 z1 z2 z3 z4 y1
  go_wp2
  go_ret
  exact ⟨⟨_, rfl, HV.out⟩, HB.out⟩
theorem pg2First (B g b1 : Nat) (fs : List Xf) (ks : List Two) (V : Value) (w : World) (h : PgI B g b1 fs ks V (fs, ks) w) :
    Calls Tryz.prog 44 #[V, .func (.func 46) #[] #[.pointer (some ⟨b1, 0, none⟩)]] w fun x w' => FOut (runL (stepY (tabOf fs)) () (fs.zip ks)).1 x w' ∧ Below w.heap.size w w' := by
  have hz : (fs.zip ks).length = fs.length := by rw [List.length_zip]; have := h.row.1; omega
  refine (firstF (stepY (tabOf fs)) (fun a => .string (strN a.1.name)) (fun a => a.2.p) (fun a => .int .i64 a.1.result) (fun a => a.2.b) (fun a => .int .i64 a.1.place) (fun _ w => PgI B g b1 fs ks V (fs, ks) w) none (fs.zip ks) V B 46 #[.pointer (some ⟨b1, 0, none⟩)] (by intro args w; simp)
    (fun _ _ _ h hb => h.below hb) (fun _ w h => ?_) ?_ ?_ () w h).mono ?_
  · rw [hz]
    have := h.row.2.1
    rw [xfsC_zip] at this
    exact this
  · intro a ha u hu
    obtain ⟨i, g1, g2⟩ := zip_mem ha
    have hx := h.row.2.2 i a.1 a.2 g1 g2
    obtain ⟨A2, c2, e2⟩ := hx.params.slice5
    obtain ⟨A3, n3, c3, e3⟩ := xssC_len hx.body
    simp at hu
    rcases hu with rfl | rfl | rfl | rfl | rfl <;> first | rfl | (rw [e2]; rfl) | (rw [e3]; rfl)
  · intro _ a w1 ha h1
    obtain ⟨i, g1, g2⟩ := zip_mem ha
    have hx := h1.row.2.2 i a.1 a.2 g1 g2
    obtain ⟨A2, c2, e2⟩ := hx.params.slice5
    obtain ⟨A3, c3, e3⟩ := xssC_slice hx.body
    obtain ⟨f, k⟩ := a
    obtain ⟨kp, kb⟩ := k
    simp only at e2 e3 hx
    subst e2 e3
    have ht : Tb w1 B g fs := ⟨ks, h1.len, h1.map, fun i f k a b => ⟨(h1.row.2.2 i f k a b).params, xssC_len (h1.row.2.2 i f k a b).body⟩⟩
    refine (prog2C f A2 A3 c2 c3 B g b1 fs w1 h1.n2 ht hx h1.c1).mono ?_
    rintro e w2 ⟨ho, hb⟩
    exact ⟨ho, fun _ => h1.below hb, below_grown hb⟩
  · rintro e w' ⟨ho, _, hg⟩
    exact ⟨ho, grown_below hg⟩
set_option maxHeartbeats 1600000 in
theorem checkProgC (fs : List Xf) (ks : List Two) (A : Option Addr) (c : Nat) (w : World) (B : Nat) (hB : B ≤ w.heap.size) (hr : XfsC w (Lo B) fs ks (.slice A fs.length c)) :
    Calls Tryz.prog 26 #[.agg #[.slice A fs.length c]] w fun x w' => FOut (progM fs) x w' ∧ Below w.heap.size w w' := by
  have BA1 := below_alloc w (.cells #[.slice A fs.length c] 26)
  have BA := Lib.hid BA1
  have z0 : (w.alloc (.cells #[.slice A fs.length c] 26)).cell? ⟨w.heap.size, 0, none⟩ = some (.slice A fs.length c) := by rw [cell_of_row _ _ _ _ _ _ (heap_alloc_new w _)]; rfl
  have HRow := Lib.hid hr
  have hmm : ∀ (t : TypeId) (w : World), (Instr.makeMap t none).run Tryz.prog w = .ok (.map (some w.heap.size)) (w.alloc (.map #[] 0)) := fun t w => run_makeMap t w
  have hmf := hmf5
  have hmx := hr.2.1.len5
  have hkl := hr.1
  have HM0 : Hid (fs.length > 64 → progM fs = some (2, 0)) := fun h => by simp [progM, h]
  have HM1 : Hid (∀ e, ¬ fs.length > 64 → (runL stepZ ([], []) (fs.zip ks)).1 = some e → progM fs = some e) := fun e h h2 => by
    rw [(runZ fs ks ([], []) hkl).1] at h2
    simp only [progM]
    rw [if_neg h]
    simp only at h2
    rw [h2]
  have HM2 : Hid (¬ fs.length > 64 → (runL stepZ ([], []) (fs.zip ks)).1 = none → progM fs = (runL (stepY (tabOf fs)) () (fs.zip ks)).1 ∧ (runL stepZ ([], []) (fs.zip ks)).2 = (fs, ks)) := fun h h2 => by
    have h3 := (runZ fs ks ([], []) hkl).2 h2
    rw [(runZ fs ks ([], []) hkl).1] at h2
    refine ⟨?_, by simpa using h3⟩
    rw [runY _ _ _ hkl]
    simp only [progM]
    rw [if_neg h]
    simp only at h2
    rw [h2]
  generalize progM fs = m at *
  clear hr BA1 hkl
  by_cases h64 : fs.length > 64
  · have q : (64 : Int) < fs.length := by omega
    have HE : Hid (m = some (2, 0)) := HM0.out h64
    clear h64
    go_enter Tryz.func26, Tryz.ntmps26
    go_wp2
    go_ret
    exact ⟨⟨_, rfl, by rw [HE.out]; exact fv_at _ 2 0 _ (by simp)⟩, BA.out.alloc BA.out.size _⟩
  · have q : ¬ (64 : Int) < fs.length := by omega
    replace HM1 := Lib.hid (fun e => HM1.out e h64)
    replace HM2 := Lib.hid (HM2.out h64)
    clear h64 HM0
    go_enter Tryz.func26, Tryz.ntmps26
    go_upto_region 1 with fail
    have HL : Hid (w.heap.size < (w.alloc (.cells #[.slice A fs.length c] 26)).heap.size) := by show _ < _; simp
    generalize w.alloc (.cells #[.slice A fs.length c] 26) = w0 at *
    go_upto_region 4 with fail
    have BX1 := below_alloc w0 (.map #[] 0)
    have BX2 := below_alloc (w0.alloc (.map #[] 0)) (.cells #[.map (some w0.heap.size)] 97)
    have BX := bthen5 BX1 BX2 BX1.size
    have hl0 := HL.out
    have c1 : ((w0.alloc (.map #[] 0)).alloc (.cells #[.map (some w0.heap.size)] 97)).cell? ⟨w0.heap.size + 1, 0, none⟩ = some (.map (some w0.heap.size)) := by
      rw [show w0.heap.size + 1 = (w0.alloc (.map #[] 0)).heap.size by simp, cell_of_row _ _ _ _ _ _ (heap_alloc_new _ _)]; rfl
    have hI : PgI B w0.heap.size (w0.heap.size + 1) fs ks (.slice A fs.length c) ([], []) ((w0.alloc (.map #[] 0)).alloc (.cells #[.map (some w0.heap.size)] 97)) :=
      ⟨rfl, MapAt.of (MapAt.made w0) (BX2.block _ (by simp)), (fun k hk => by cases hk), c1, HRow.out.same (same_below (bthen5 BA.out BX BA.out.size) hB), by omega, by omega⟩
    have K1 := Lib.hid (pgFirst B w0.heap.size (w0.heap.size + 1) fs ks (.slice A fs.length c) ([], []) _ hI)
    have x0 := cell_below z0 BX
    have HB := Lib.hid (bthen5 BA.out BX BA.out.size)
    clear hI BX1 BX2 BX c1 z0 BA HRow hl0
    generalize (w0.alloc (.map #[] 0)).alloc (.cells #[.map (some w0.heap.size)] 97) = w2 at *
    generalize w0.heap.size = g at *
    go_wp2_with fail
    with_reducible refine K1.out.mono ?_
    rintro e w3 ⟨⟨v, rfl, hv⟩, hn, hg⟩
    have HV := Lib.hid hv
    have HN := Lib.hid hn
    have x1 := cell_moves x0 hg (by have := HL.out; show g ≠ w.heap.size; omega)
    have HB3 := Lib.hid (grown_low HB.out hg (by have := HL.out; omega) HB.out.size)
    clear hn hg K1 x0 HB
    generalize hr1 : runL stepZ ([], []) (fs.zip ks) = r1 at *
    obtain ⟨r1, st⟩ := r1
    simp only at *
    cases r1 with
    | some er =>
      have HE : Hid (m = some er) := HM1.out er rfl
      obtain ⟨b', rfl, _⟩ := hv
      clear x1 hr1
      go_wp2
      go_ret
      exact ⟨⟨_, rfl, by rw [HE.out]; exact HV.out⟩, HB3.out⟩
    | none =>
      obtain rfl : v = .pointer none := hv
      have hM := HM2.out (by first | rfl | trivial)
      have HE : Hid (m = (runL (stepY (tabOf fs)) () (fs.zip ks)).1) := hM.1
      have hI := HN.out (by first | rfl | trivial)
      rw [hM.2] at hI
      have K2 := Lib.hid (pg2First B g (g + 1) fs ks (.slice A fs.length c) w3 hI)
      clear hM hI HV HN HM1 HM2 hr1
      generalize (runL (stepY (tabOf fs)) () (fs.zip ks)).1 = r2 at *
      go_wp2_with fail
      with_reducible refine K2.out.mono ?_
      rintro e w4 ⟨⟨v, rfl, hv⟩, hb⟩
      have HV := Lib.hid hv
      have HB4 := Lib.hid (bthen5 HB3.out hb HB3.out.size)
      clear hv hb K2 x1
      go_wp2
      go_ret
      exact ⟨⟨_, rfl, by rw [HE.out]; exact HV.out⟩, HB4.out⟩
/-- what 'Check' tells -/
def checkM (fs : List Xf) : Int × Int := (progM fs).getD (0, 0)
set_option maxHeartbeats 1600000 in
theorem checkC (fs : List Xf) (ks : List Two) (A : Option Addr) (c : Nat) (w : World) (B : Nat) (hB : B ≤ w.heap.size) (hr : XfsC w (Lo B) fs ks (.slice A fs.length c)) :
    Calls Tryz.prog 15 #[.agg #[.slice A fs.length c]] w fun e w' => e = .returned (.tuple #[.int .i64 (checkM fs).1, .int .i64 (checkM fs).2]) ∧ Below w.heap.size w w' := by
  have BA1 := below_alloc w (.cells #[.slice A fs.length c] 26)
  have BA := Lib.hid BA1
  have z0 : (w.alloc (.cells #[.slice A fs.length c] 26)).cell? ⟨w.heap.size, 0, none⟩ = some (.slice A fs.length c) := by rw [cell_of_row _ _ _ _ _ _ (heap_alloc_new w _)]; rfl
  have K := Lib.hid (checkProgC fs ks A c _ B (by have := BA1.size; omega) (hr.same (same_below BA1 hB)))
  unfold checkM
  generalize progM fs = m at *
  clear hr BA1
  go_enter Tryz.func15, Tryz.ntmps15
  go_upto_region 1 with fail
  generalize w.alloc (.cells #[.slice A fs.length c] 26) = w0 at *
  go_wp2_with fail
  with_reducible refine K.out.mono ?_
  rintro e w1 ⟨⟨v, rfl, hv⟩, hb⟩
  have HB := Lib.hid (bthen5 BA.out hb BA.out.size)
  clear hb K z0
  cases m with
  | none =>
    obtain rfl : v = .pointer none := hv
    go_wp2
    go_ret2
    exact ⟨rfl, HB.out⟩
  | some er =>
    obtain ⟨b', rfl, hbb⟩ := hv
    have y0 : w1.cell? ⟨b', 0, none⟩ = some (.int .i64 er.1) := by rw [cell_of_row _ _ _ _ _ _ hbb]; rfl
    have y1 : w1.cell? ⟨b', 1, none⟩ = some (.int .i64 er.2) := by rw [cell_of_row _ _ _ _ _ _ hbb]; rfl
    clear hbb
    go_upto_region 3 with fail
    go_quiet (fail)
    go_wp2
    go_ret2
    exact ⟨rfl, below_drewN HB.out _⟩
end
end Go.Proofs.YtfcpabhkconjmaaGreatDoor
