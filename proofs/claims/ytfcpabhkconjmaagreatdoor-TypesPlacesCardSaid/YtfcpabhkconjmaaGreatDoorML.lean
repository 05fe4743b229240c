/- An if, a for, a statement, as the check has them. Conditions: what is handed in lies in memory. What the check of a statement says: the first error, and the names behind it. Conditions: what is handed in lies in memory. How many names a block declares; whether it ends. Conditions: what is handed in lies in memory. -/
import Derived.Test.YtfcpabhkconjmaaGreatDoorMK
import Derived.IntWalk
namespace Go.Proofs.YtfcpabhkconjmaaGreatDoor
section
open Go.RowKit
set_option maxRecDepth 100000
set_option linter.unusedSimpArgs false
set_option linter.unusedVariables false

/-- an if, as the model has it -/
def ifR (a : Er) (y f : Er) : Er := match a with | some e => some e | none => match y with | some e => some e | none => f
set_option maxHeartbeats 3200000 in
theorem choiceC (op : Int) (text : List Nat) (l : List Xe) (body els : List Xs) (A1 A2 A3 : Option Addr) (c1 c2 c3 : Nat) (place : Int) (hSb : ∀ s ∈ body, SC s) (hSe : ∀ s ∈ els, SC s) (B cB g b : Nat) (fs : List Xf) (res : Int) (sc : Scope) (w : World)
    (hc : Cx w B cB g fs res) (hs : Sco w b sc) (ht : Byn text) (hk : XesC w (Lo B) l (.slice A1 l.length c1)) (hy : XssC w (Lo B) body (.slice A2 body.length c2)) (hf : XssC w (Lo B) els (.slice A3 els.length c3)) :
    Calls Tryz.prog 120 #[.pointer (some ⟨cB, 0, none⟩), .agg #[.int .i64 op, .string (strN text), .slice A1 l.length c1, .slice A2 body.length c2, .slice A3 els.length c3, .int .i64 place], .map (some b)] w fun x w' => FOut (ifR (allR (fun x => x == 2) (kidsM (tabOf fs) sc l)) (blockM (tabOf fs) res body sc).1 (blockM (tabOf fs) res els sc).1) x w' ∧ Below w.heap.size w w' := by
  have hB : B ≤ w.heap.size := by have := hc.lt; have := hc.hc; omega
  have hcl := hc.lt
  have BA := Lib.hid (below_alloc w (xsO op text (.slice A1 l.length c1) (.slice A2 body.length c2) (.slice A3 els.length c3) place))
  obtain ⟨z0, z1, z2, z3, z4, z5⟩ := xs_cells w op text (.slice A1 l.length c1) (.slice A2 body.length c2) (.slice A3 els.length c3) place
  have HKO : Hid (∀ w' fv fits, Below w.heap.size w w' → FitV w' fv fits → Calls Tryz.prog 124 #[.pointer (some ⟨cB, 0, none⟩), .slice A1 l.length c1, .map (some b), fv] w' fun x w'' => FOut (allR fits (kidsM (tabOf fs) sc l)) x w'' ∧ Below w'.heap.size w' w'') :=
    fun w' fv fits hb hf => operandsC l (fun e _ => ec e) B cB g b fs res sc w' _ fv fits (hc.below hb) (hs.below hb) (hk.same (same_below hb hB)) hf
  have HSc : Hid (∀ w', Below w.heap.size w w' → Sco w' b sc) := fun w' hb => hs.below hb
  have HY : Hid (∀ w' bb sc', Below w.heap.size w w' → Sco w' bb sc' → w.heap.size ≤ bb → Calls Tryz.prog 83 #[.pointer (some ⟨cB, 0, none⟩), .slice A2 body.length c2, .map (some bb)] w' fun x w'' => FOut (blockM (tabOf fs) res body sc').1 x w'' ∧ w'.grownBy w'' (some bb)) :=
    fun w' bb sc' hb hsc hbb => (blockC body hSb B cB g bb fs res sc' w' _ (hc.below hb) hsc (by omega) (by omega) (by omega) (hy.same (same_below hb hB))).mono fun e w'' h => ⟨h.1, h.2.2⟩
  have HF : Hid (∀ w' bb sc', Below w.heap.size w w' → Sco w' bb sc' → w.heap.size ≤ bb → Calls Tryz.prog 83 #[.pointer (some ⟨cB, 0, none⟩), .slice A3 els.length c3, .map (some bb)] w' fun x w'' => FOut (blockM (tabOf fs) res els sc').1 x w'' ∧ w'.grownBy w'' (some bb)) :=
    fun w' bb sc' hb hsc hbb => (blockC els hSe B cB g bb fs res sc' w' _ (hc.below hb) hsc (by omega) (by omega) (by omega) (hf.same (same_below hb hB))).mono fun e w'' h => ⟨h.1, h.2.2⟩
  have HM1 : Hid (∀ e, allR (fun x => x == 2) (kidsM (tabOf fs) sc l) = some e → ifR (allR (fun x => x == 2) (kidsM (tabOf fs) sc l)) (blockM (tabOf fs) res body sc).1 (blockM (tabOf fs) res els sc).1 = some e) := fun e h => by simp [ifR, h]
  have HM2 : Hid (∀ e, allR (fun x => x == 2) (kidsM (tabOf fs) sc l) = none → (blockM (tabOf fs) res body sc).1 = some e → ifR (allR (fun x => x == 2) (kidsM (tabOf fs) sc l)) (blockM (tabOf fs) res body sc).1 (blockM (tabOf fs) res els sc).1 = some e) := fun e h h2 => by simp [ifR, h, h2]
  have HM3 : Hid (allR (fun x => x == 2) (kidsM (tabOf fs) sc l) = none → (blockM (tabOf fs) res body sc).1 = none → ifR (allR (fun x => x == 2) (kidsM (tabOf fs) sc l)) (blockM (tabOf fs) res body sc).1 (blockM (tabOf fs) res els sc).1 = (blockM (tabOf fs) res els sc).1) := fun h h2 => by simp [ifR, h, h2]
  replace HY := Lib.hid (fun w' bb => HY.out w' bb sc)
  replace HF := Lib.hid (fun w' bb => HF.out w' bb sc)
  replace HKO := Lib.hid (fun w' fv => HKO.out w' fv (fun x => x == 2))
  generalize ifR (allR (fun x => x == 2) (kidsM (tabOf fs) sc l)) (blockM (tabOf fs) res body sc).1 (blockM (tabOf fs) res els sc).1 = m at *
  generalize allR (fun x => x == 2) (kidsM (tabOf fs) sc l) = r1 at *
  generalize (blockM (tabOf fs) res body sc).1 = r2 at *
  generalize (blockM (tabOf fs) res els sc).1 = r3 at *
  clear hc hs ht hk hy hf hSb hSe hcl
  go_enter Tryz.func120, Tryz.ntmps120
  go_upto_region 1 with fail
  generalize w.alloc (.cells #[.int .i64 op, .string (strN text), .slice A1 l.length c1, .slice A2 body.length c2, .slice A3 els.length c3, .int .i64 place] 48) = w0 at *
  have hbl : Below w0.heap.size w0 w0.drew := (Below.refl _ _).drew
  have HQ : Hid (∀ w', Below w0.heap.size w0 w' → w'.cell? ⟨w.heap.size, 2, none⟩ = some (.slice A1 l.length c1)) := fun w' hb => cell_below z2 hb
  go_region_held3 (fun w' => w'.cell? ⟨w.heap.size, 2, none⟩ = some (.slice A1 l.length c1))
    (with_reducible exact HQ.out _ hbl)
    (first | (go_at_call 125; refine (isC _ _).mono ?_; rintro e wn ⟨v, rfl, hf, hbn⟩; have HFT := Lib.hid hf.less; obtain ⟨fn, caps, D, rfl, _⟩ := hf; replace hbl := bthen5 hbl hbn hbl.size) | (go_at_call 124; refine (HKO.out _ _ (bthen5 BA.out hbl BA.out.size) HFT.out).mono ?_; rintro e wn2 ⟨⟨v, rfl, hv⟩, hbn2⟩; replace hbl := bthen5 hbl hbn2 hbl.size))
  have y3 := cell_below z3 hbl
  have y4 := cell_below z4 hbl
  have HV := Lib.hid hv
  have B1 := Lib.hid (bthen5 BA.out hbl BA.out.size)
  clear hbn hbn2 hbl HQ z0 z1 z2 z3 z4 z5 BA HKO
  cases r1 with
  | some er =>
    obtain ⟨b', rfl, _⟩ := hv
    have HE : Hid (m = some er) := HM1.out er rfl
    clear y3 y4
    go_wp2
    go_ret
    exact ⟨⟨_, rfl, by rw [HE.out]; exact HV.out⟩, B1.out⟩
  | none =>
    obtain rfl : v = .pointer none := hv
    clear HV
    go_upto_region 4 with fail
    have hbl : Below wn2.heap.size wn2 wn2.drew := (Below.refl _ _).drew
    have HQ : Hid (∀ w', Below wn2.heap.size wn2 w' → w'.cell? ⟨w.heap.size, 3, none⟩ = some (.slice A2 body.length c2)) := fun w' hb => cell_below y3 hb
    go_region_held3 (fun w' => w'.cell? ⟨w.heap.size, 3, none⟩ = some (.slice A2 body.length c2))
      (with_reducible exact HQ.out _ hbl)
      (first | (go_at_call 140; refine (cloneC b sc _ (HSc.out _ (bthen5 B1.out hbl B1.out.size))).mono ?_; rintro e wj ⟨rfl, hsc, hbn⟩; have HSC := Lib.hid hsc; replace hbl := bthen5 hbl hbn hbl.size) | (go_at_call 83; refine (HY.out _ _ (bthen5 B1.out hbl B1.out.size) HSC.out B1.out.size).mono ?_; rintro e wk ⟨⟨v, rfl, hv⟩, hg2⟩; replace hbl := grown_low hbl hg2 (Nat.le_refl _) hbl.size))
    replace y4 := cell_below y4 hbl
    have HV := Lib.hid hv
    have B2 := Lib.hid (bthen5 B1.out hbl B1.out.size)
    clear hbn hg2 hsc HSC hbl HQ y3 HY
    cases r2 with
    | some er =>
      obtain ⟨b', rfl, _⟩ := hv
      have HE : Hid (m = some er) := HM2.out er (by first | rfl | trivial) (by first | rfl | trivial)
      clear y4
      go_wp2
      go_ret
      exact ⟨⟨_, rfl, by rw [HE.out]; exact HV.out⟩, B2.out⟩
    | none =>
      obtain rfl : v = .pointer none := hv
      have HE : Hid (m = r3) := HM3.out (by first | rfl | trivial) (by first | rfl | trivial)
      clear HV
      go_upto_region 7 with fail
      have hbl : Below wk.heap.size wk wk.drew := (Below.refl _ _).drew
      have HQ : Hid (∀ w', Below wk.heap.size wk w' → w'.cell? ⟨w.heap.size, 4, none⟩ = some (.slice A3 els.length c3)) := fun w' hb => cell_below y4 hb
      go_region_held3 (fun w' => w'.cell? ⟨w.heap.size, 4, none⟩ = some (.slice A3 els.length c3))
        (with_reducible exact HQ.out _ hbl)
        (first | (go_at_call 140; refine (cloneC b sc _ (HSc.out _ (bthen5 B2.out hbl B2.out.size))).mono ?_; rintro e wl ⟨rfl, hsc, hbn⟩; have HSC := Lib.hid hsc; replace hbl := bthen5 hbl hbn hbl.size) | (go_at_call 83; refine (HF.out _ _ (bthen5 B2.out hbl B2.out.size) HSC.out B2.out.size).mono ?_; rintro e wm ⟨⟨v, rfl, hv⟩, hg2⟩; replace hbl := grown_low hbl hg2 (Nat.le_refl _) hbl.size))
      have HV := Lib.hid hv
      have B3 := Lib.hid (bthen5 B2.out hbl B2.out.size)
      clear hbn hg2 hsc HSC hbl HQ y4 HF
      go_wp2
      go_ret
      exact ⟨⟨_, rfl, by rw [HE.out]; exact HV.out⟩, B3.out⟩
/-- a for, as the model has it -/
def forR (T : Tab5) (res : Int) (a : Er) (sc : Scope) (text : List Nat) (place : Int) (body : List Xs) : Er := match a with | some e => some e | none => match declareR sc text (1, true) place with | (some e, _) => some e | (none, inner) => (blockM T res body inner).1
set_option maxHeartbeats 3200000 in
theorem loopC (op : Int) (text : List Nat) (l : List Xe) (body els : List Xs) (A1 A2 A3 : Option Addr) (c1 c2 c3 : Nat) (place : Int) (hSb : ∀ s ∈ body, SC s) (hSe : ∀ s ∈ els, SC s) (B cB g b : Nat) (fs : List Xf) (res : Int) (sc : Scope) (w : World)
    (hc : Cx w B cB g fs res) (hs : Sco w b sc) (ht : Byn text) (hk : XesC w (Lo B) l (.slice A1 l.length c1)) (hy : XssC w (Lo B) body (.slice A2 body.length c2)) (hf : XssC w (Lo B) els (.slice A3 els.length c3)) :
    Calls Tryz.prog 121 #[.pointer (some ⟨cB, 0, none⟩), .agg #[.int .i64 op, .string (strN text), .slice A1 l.length c1, .slice A2 body.length c2, .slice A3 els.length c3, .int .i64 place], .map (some b)] w fun x w' => FOut (forR (tabOf fs) res (allR (fun x => x == 1) (kidsM (tabOf fs) sc l)) sc text place body) x w' ∧ Below w.heap.size w w' := by
  have hB : B ≤ w.heap.size := by have := hc.lt; have := hc.hc; omega
  have hcl := hc.lt
  have BA := Lib.hid (below_alloc w (xsO op text (.slice A1 l.length c1) (.slice A2 body.length c2) (.slice A3 els.length c3) place))
  obtain ⟨z0, z1, z2, z3, z4, z5⟩ := xs_cells w op text (.slice A1 l.length c1) (.slice A2 body.length c2) (.slice A3 els.length c3) place
  have HKO : Hid (∀ w' fv fits, Below w.heap.size w w' → FitV w' fv fits → Calls Tryz.prog 124 #[.pointer (some ⟨cB, 0, none⟩), .slice A1 l.length c1, .map (some b), fv] w' fun x w'' => FOut (allR fits (kidsM (tabOf fs) sc l)) x w'' ∧ Below w'.heap.size w' w'') :=
    fun w' fv fits hb hf => operandsC l (fun e _ => ec e) B cB g b fs res sc w' _ fv fits (hc.below hb) (hs.below hb) (hk.same (same_below hb hB)) hf
  have HSc : Hid (∀ w', Below w.heap.size w w' → Sco w' b sc) := fun w' hb => hs.below hb
  have HY : Hid (∀ w' bb sc', Below w.heap.size w w' → Sco w' bb sc' → w.heap.size ≤ bb → Calls Tryz.prog 83 #[.pointer (some ⟨cB, 0, none⟩), .slice A2 body.length c2, .map (some bb)] w' fun x w'' => FOut (blockM (tabOf fs) res body sc').1 x w'' ∧ w'.grownBy w'' (some bb)) :=
    fun w' bb sc' hb hsc hbb => (blockC body hSb B cB g bb fs res sc' w' _ (hc.below hb) hsc (by omega) (by omega) (by omega) (hy.same (same_below hb hB))).mono fun e w'' h => ⟨h.1, h.2.2⟩
  have HF : Hid (∀ w' bb sc', Below w.heap.size w w' → Sco w' bb sc' → w.heap.size ≤ bb → Calls Tryz.prog 83 #[.pointer (some ⟨cB, 0, none⟩), .slice A3 els.length c3, .map (some bb)] w' fun x w'' => FOut (blockM (tabOf fs) res els sc').1 x w'' ∧ w'.grownBy w'' (some bb)) :=
    fun w' bb sc' hb hsc hbb => (blockC els hSe B cB g bb fs res sc' w' _ (hc.below hb) hsc (by omega) (by omega) (by omega) (hf.same (same_below hb hB))).mono fun e w'' h => ⟨h.1, h.2.2⟩
  have HM1 : Hid (∀ e, allR (fun x => x == 1) (kidsM (tabOf fs) sc l) = some e → forR (tabOf fs) res (allR (fun x => x == 1) (kidsM (tabOf fs) sc l)) sc text place body = some e) := fun e h => by simp [forR, h]
  have HM2 : Hid (∀ e, allR (fun x => x == 1) (kidsM (tabOf fs) sc l) = none → (declareR sc text (1, true) place).1 = some e → forR (tabOf fs) res (allR (fun x => x == 1) (kidsM (tabOf fs) sc l)) sc text place body = some e) := fun e h h2 => by
    rcases hd : declareR sc text (1, true) place with ⟨x, y⟩
    rw [hd] at h2
    obtain rfl : x = some e := h2
    simp [forR, h, hd]
  have HM3 : Hid (allR (fun x => x == 1) (kidsM (tabOf fs) sc l) = none → (declareR sc text (1, true) place).1 = none → forR (tabOf fs) res (allR (fun x => x == 1) (kidsM (tabOf fs) sc l)) sc text place body = (blockM (tabOf fs) res body (declareR sc text (1, true) place).2).1) := fun h h2 => by
    rcases hd : declareR sc text (1, true) place with ⟨x, y⟩
    rw [hd] at h2
    obtain rfl : x = none := h2
    simp [forR, h, hd]
  have HTx := Lib.hid ht
  replace HKO := Lib.hid (fun w' fv => HKO.out w' fv (fun x => x == 1))
  generalize forR (tabOf fs) res (allR (fun x => x == 1) (kidsM (tabOf fs) sc l)) sc text place body = m at *
  generalize allR (fun x => x == 1) (kidsM (tabOf fs) sc l) = r1 at *
  clear hc hs ht hk hy hf hSb hSe hcl HF
  go_enter Tryz.func121, Tryz.ntmps121
  go_upto_region 1 with fail
  generalize w.alloc (.cells #[.int .i64 op, .string (strN text), .slice A1 l.length c1, .slice A2 body.length c2, .slice A3 els.length c3, .int .i64 place] 48) = w0 at *
  have hbl : Below w0.heap.size w0 w0.drew := (Below.refl _ _).drew
  have HQ : Hid (∀ w', Below w0.heap.size w0 w' → w'.cell? ⟨w.heap.size, 2, none⟩ = some (.slice A1 l.length c1)) := fun w' hb => cell_below z2 hb
  go_region_held3 (fun w' => w'.cell? ⟨w.heap.size, 2, none⟩ = some (.slice A1 l.length c1))
    (with_reducible exact HQ.out _ hbl)
    (first | (go_at_call 125; refine (isC _ _).mono ?_; rintro e wn ⟨v, rfl, hf, hbn⟩; have HFT := Lib.hid hf.less; obtain ⟨fn, caps, D, rfl, _⟩ := hf; replace hbl := bthen5 hbl hbn hbl.size) | (go_at_call 124; refine (HKO.out _ _ (bthen5 BA.out hbl BA.out.size) HFT.out).mono ?_; rintro e wn2 ⟨⟨v, rfl, hv⟩, hbn2⟩; replace hbl := bthen5 hbl hbn2 hbl.size))
  have y1 := cell_below z1 hbl
  have y3 := cell_below z3 hbl
  have y5 := cell_below z5 hbl
  have HV := Lib.hid hv
  have B1 := Lib.hid (bthen5 BA.out hbl BA.out.size)
  clear hbn hbn2 hbl HQ z0 z1 z2 z3 z4 z5 BA HKO
  cases r1 with
  | some er =>
    obtain ⟨b', rfl, _⟩ := hv
    have HE : Hid (m = some er) := HM1.out er rfl
    clear y1 y3 y5
    go_wp2
    go_ret
    exact ⟨⟨_, rfl, by rw [HE.out]; exact HV.out⟩, B1.out⟩
  | none =>
    obtain rfl : v = .pointer none := hv
    have KC := Lib.hid (cloneC b sc wn2 (HSc.out _ B1.out))
    clear HV
    go_wp2_with fail
    refine KC.out.mono ?_
    rintro e w3 ⟨rfl, hsc, hb3⟩
    have HSC := Lib.hid hsc
    have x1 := cell_below y1 hb3
    have x3 := cell_below y3 hb3
    have x5 := cell_below y5 hb3
    have HL := Lib.hid B1.out.size
    have KD := Lib.hid (declareC wn2.heap.size sc text HTx.out 1 true place w3 hsc)
    have B3 := Lib.hid (bthen5 B1.out hb3 B1.out.size)
    have HW : Hid (w.heap.size < wn2.heap.size) := World.block_lt_of_cell? wn2 _ y1
    clear hsc hb3 KC y1 y3 y5 HSc
    generalize wn2.heap.size = bb at *
    go_wp2_with fail
    refine KD.out.mono ?_
    rintro e w4 ⟨⟨v, rfl, hv⟩, hsd, hg⟩
    have HV := Lib.hid hv
    have HSD := Lib.hid hsd
    have u3 := cell_moves x3 hg (by have := HW.out; show bb ≠ w.heap.size; omega)
    have B4 := Lib.hid (grown_low B3.out hg HL.out B3.out.size)
    clear hsd hg x1 x3 x5 KD HSC
    cases hd : (declareR sc text (1, true) place).1 with
    | some er =>
      rw [hd] at hv HV
      have HE : Hid (m = some er) := HM2.out er (by first | rfl | trivial) hd
      obtain ⟨b', rfl, _⟩ := hv
      clear hd
      go_wp2
      go_ret
      exact ⟨⟨_, rfl, by rw [HE.out]; exact HV.out⟩, B4.out⟩
    | none =>
      rw [hd] at hv
      have HE : Hid (m = (blockM (tabOf fs) res body (declareR sc text (1, true) place).2).1) := HM3.out (by first | rfl | trivial) hd
      obtain rfl : v = .pointer none := hv
      have KB := Lib.hid (HY.out w4 bb _ B4.out HSD.out HL.out)
      clear hd HV
      go_wp2_with fail
      refine KB.out.mono ?_
      rintro e w5 ⟨⟨v, rfl, hv⟩, hg⟩
      have HV := Lib.hid hv
      have B5 := Lib.hid (grown_low B4.out hg HL.out B4.out.size)
      clear hv hg u3 KB
      go_wp2
      go_ret
      exact ⟨⟨_, rfl, by rw [HE.out]; exact HV.out⟩, B5.out⟩
end

section
open Go.RowKit
set_option maxRecDepth 100000
set_option linter.unusedSimpArgs false
set_option linter.unusedVariables false

theorem isE {α : Type} (l : List α) : l.isEmpty = (l.length == 0) := by cases l <;> rfl
theorem parts_op {op : Int} {n : Nat} {y f : Bool} (h : partsR op n y f = true) : ((op = 1 ∨ op = 2 ∨ op = 7 ∨ op = 8) ∧ n = 1) ∨ op = 6 ∨ op = 5 ∨ op = 3 ∨ op = 4 := by
  unfold partsR at h
  split at h
  · rename_i h1
    simp only [Bool.and_eq_true, beq_iff_eq] at h
    exact .inl ⟨h1, h.1⟩
  · split at h
    · omega
    · split at h
      · omega
      · split at h
        · omega
        · split at h
          · omega
          · cases h
theorem stm_bad (T : Tab5) (res op : Int) (text : List Nat) (exprs : List Xe) (body els : List Xs) (place : Int) (sc : Scope) (h : partsR op exprs.length body.isEmpty els.isEmpty = false) : stmM T res (.mk op text exprs body els place) sc = (some (51, place), sc) := by
  unfold stmM; rw [if_pos h]
theorem stm_1 (T : Tab5) (res : Int) (text : List Nat) (e : Xe) (body els : List Xs) (place : Int) (sc : Scope) (h : partsR 1 1 body.isEmpty els.isEmpty = true) : stmM T res (.mk 1 text [e] body els place) sc = letR sc text place (e.place, exprM T sc e) := by
  unfold stmM; rw [if_neg (by rw [show [e].length = 1 from rfl, h]; simp), if_pos rfl]; simp [kidsM]
theorem stm_2 (T : Tab5) (res : Int) (text : List Nat) (exprs : List Xe) (body els : List Xs) (place : Int) (sc : Scope) (h : partsR 2 exprs.length body.isEmpty els.isEmpty = true) : stmM T res (.mk 2 text exprs body els place) sc = (setR sc text place (kidsM T sc exprs), sc) := by
  unfold stmM; rw [if_neg (by rw [h]; simp), if_neg (by decide), if_pos rfl]
theorem stm_3 (T : Tab5) (res : Int) (text : List Nat) (exprs : List Xe) (body els : List Xs) (place : Int) (sc : Scope) (h : partsR 3 exprs.length body.isEmpty els.isEmpty = true) : stmM T res (.mk 3 text exprs body els place) sc = (ifR (allR (fun x => x == 2) (kidsM T sc exprs)) (blockM T res body sc).1 (blockM T res els sc).1, sc) := by
  unfold stmM; rw [if_neg (by rw [h]; simp), if_neg (by decide), if_neg (by decide), if_pos rfl]; rfl
theorem stm_4 (T : Tab5) (res : Int) (text : List Nat) (exprs : List Xe) (body els : List Xs) (place : Int) (sc : Scope) (h : partsR 4 exprs.length body.isEmpty els.isEmpty = true) : stmM T res (.mk 4 text exprs body els place) sc = (forR T res (allR (fun x => x == 1) (kidsM T sc exprs)) sc text place body, sc) := by
  unfold stmM; rw [if_neg (by rw [h]; simp), if_neg (by decide), if_neg (by decide), if_neg (by decide), if_pos rfl]; rfl
theorem stm_5 (T : Tab5) (res : Int) (text : List Nat) (exprs : List Xe) (body els : List Xs) (place : Int) (sc : Scope) (h : partsR 5 exprs.length body.isEmpty els.isEmpty = true) : stmM T res (.mk 5 text exprs body els place) sc = (endR res place (kidsM T sc exprs), sc) := by
  unfold stmM; rw [if_neg (by rw [h]; simp), if_neg (by decide), if_neg (by decide), if_neg (by decide), if_neg (by decide), if_pos rfl]
theorem stm_8 (T : Tab5) (res : Int) (text : List Nat) (e : Xe) (body els : List Xs) (place : Int) (sc : Scope) (h : partsR 8 1 body.isEmpty els.isEmpty = true) : stmM T res (.mk 8 text [e] body els place) sc = (allR (fun _ => e.op == 5) (kidsM T sc [e]), sc) := by
  unfold stmM; rw [if_neg (by rw [show [e].length = 1 from rfl, h]; simp), if_neg (by decide), if_neg (by decide), if_neg (by decide), if_neg (by decide), if_neg (by decide), if_pos rfl]; rfl
theorem stm_67 (T : Tab5) (res op : Int) (text : List Nat) (exprs : List Xe) (body els : List Xs) (place : Int) (sc : Scope) (h : partsR op exprs.length body.isEmpty els.isEmpty = true) (h1 : ¬ op = 1) (h2 : ¬ op = 2) (h3 : ¬ op = 3) (h4 : ¬ op = 4) (h5 : ¬ op = 5) (h8 : ¬ op = 8) : stmM T res (.mk op text exprs body els place) sc = (allR (fun x => x == 3) (kidsM T sc exprs), sc) := by
  unfold stmM; rw [if_neg (by rw [h]; simp), if_neg h1, if_neg h2, if_neg h3, if_neg h4, if_neg h5, if_neg h8]
set_option maxHeartbeats 1600000 in
theorem stmt_bad (op : Int) (text : List Nat) (exprs : List Xe) (body els : List Xs) (place : Int) (hSb : ∀ s ∈ body, SC s) (hSe : ∀ s ∈ els, SC s) (hh : partsR op exprs.length body.isEmpty els.isEmpty = false) : SC (.mk op text exprs body els place) := by
  intro B cB g b fs res sc w v hc hs n3 n4 n5 hv
  obtain ⟨⟨K1, K2, K3⟩, rfl, ht, hk, hy, hf⟩ := hv
  simp only [Xs.text, Xs.exprs, Xs.body, Xs.els] at ht hk hy hf
  obtain ⟨A1, c1, rfl⟩ : ∃ A c, K1 = .slice A exprs.length c := xesC_slice hk
  obtain ⟨A2, c2, rfl⟩ := xssC_slice hy
  obtain ⟨A3, c3, rfl⟩ := xssC_slice hf
  have hB : B ≤ w.heap.size := by have := hc.lt; have := hc.hc; omega
  have BA := Lib.hid (below_alloc w (xsO op text (.slice A1 exprs.length c1) (.slice A2 body.length c2) (.slice A3 els.length c3) place))
  obtain ⟨z0, z1, z2, z3, z4, z5⟩ := xs_cells w op text (.slice A1 exprs.length c1) (.slice A2 body.length c2) (.slice A3 els.length c3) place
  have KH := Lib.hid (hasPartsC op text A1 A2 A3 exprs.length body.length els.length c1 c2 c3 place)
  rw [← isE, ← isE, hh] at KH
  unfold xsC
  simp only [Xs.op, Xs.text, Xs.place, Xs.exprs, Xs.body, Xs.els]
  have HR := Lib.hid (stm_bad (tabOf fs) res op text exprs body els place sc hh)
  generalize stmM (tabOf fs) res (.mk op text exprs body els place) sc = m at *
  clear hc hs hk hy hf hSb hSe hh n3 n4 n5 ht
  go_enter Tryz.func105, Tryz.ntmps105
  go_wp2_with fail
  generalize w.alloc (.cells #[.int .i64 op, .string (strN text), .slice A1 exprs.length c1, .slice A2 body.length c2, .slice A3 els.length c3, .int .i64 place] 48) = w0 at *
  with_reducible refine (KH.out _).mono ?_
  rintro e' w1 ⟨rfl, b1⟩
  have y0 := cell_below z0 b1
  have y1 := cell_below z1 b1
  have y2 := cell_below z2 b1
  have y3 := cell_below z3 b1
  have y4 := cell_below z4 b1
  have y5 := cell_below z5 b1
  have B1 := Lib.hid (bthen5 BA.out b1 BA.out.size)
  clear z0 z1 z2 z3 z4 z5 b1 BA KH
  clear y0 y1 y2 y3 y4
  go_wp2
  go_ret
  exact ⟨⟨_, rfl, by rw [HR.out]; exact fv_new w1 51 place⟩, fun h => (by rw [HR.out] at h; cases h), (grown_any (B1.out.alloc B1.out.size _) _)⟩
set_option maxHeartbeats 1600000 in
theorem stmt_1 (e : Xe) (text : List Nat) (body els : List Xs) (place : Int) (hSb : ∀ s ∈ body, SC s) (hSe : ∀ s ∈ els, SC s) (hh : partsR 1 1 body.isEmpty els.isEmpty = true) : SC (.mk 1 text [e] body els place) := by
  intro B cB g b fs res sc w v hc hs n3 n4 n5 hv
  obtain ⟨⟨K1, K2, K3⟩, rfl, ht, hk, hy, hf⟩ := hv
  simp only [Xs.text, Xs.exprs, Xs.body, Xs.els] at ht hk hy hf
  obtain ⟨A1, c1, rfl⟩ : ∃ A c, K1 = .slice A 1 c := xesC_slice hk
  obtain ⟨A2, c2, rfl⟩ := xssC_slice hy
  obtain ⟨A3, c3, rfl⟩ := xssC_slice hf
  have hB : B ≤ w.heap.size := by have := hc.lt; have := hc.hc; omega
  have BA := Lib.hid (below_alloc w (xsO 1 text (.slice A1 1 c1) (.slice A2 body.length c2) (.slice A3 els.length c3) place))
  obtain ⟨z0, z1, z2, z3, z4, z5⟩ := xs_cells w 1 text (.slice A1 1 c1) (.slice A2 body.length c2) (.slice A3 els.length c3) place
  have KH := Lib.hid (hasPartsC 1 text A1 A2 A3 1 body.length els.length c1 c2 c3 place)
  rw [← isE, ← isE, hh] at KH
  unfold xsC
  simp only [Xs.op, Xs.text, Xs.place, Xs.exprs, Xs.body, Xs.els]
  have HR := Lib.hid (stm_1 (tabOf fs) res text e body els place sc hh)
  have KC : Hid (∀ w', Below w.heap.size w w' → Calls Tryz.prog 118 #[.pointer (some ⟨cB, 0, none⟩), .agg #[.int .i64 1, .string (strN text), .slice A1 1 c1, .slice A2 body.length c2, .slice A3 els.length c3, .int .i64 place], .map (some b)] w' fun x w'' => FOut (letR sc text place (e.place, exprM (tabOf fs) sc e)).1 x w'' ∧ Sco w'' b (letR sc text place (e.place, exprM (tabOf fs) sc e)).2 ∧ w'.grownBy w'' (some b)) :=
    fun w' hb => letC 1 text e A2 A3 body.length els.length c2 c3 place B cB g b fs res sc w' _ (hc.below hb) (hs.below hb) ht (hk.same (same_below hb hB))
  generalize stmM (tabOf fs) res (.mk 1 text [e] body els place) sc = m at *
  clear hh hc hs hk hy hf hSb hSe n3 n4 n5 ht
  go_enter Tryz.func105, Tryz.ntmps105
  go_wp2_with fail
  generalize w.alloc (.cells #[.int .i64 1, .string (strN text), .slice A1 1 c1, .slice A2 body.length c2, .slice A3 els.length c3, .int .i64 place] 48) = w0 at *
  with_reducible refine (KH.out _).mono ?_
  rintro e' w1 ⟨rfl, b1⟩
  have y0 := cell_below z0 b1
  have y1 := cell_below z1 b1
  have y2 := cell_below z2 b1
  have y3 := cell_below z3 b1
  have y4 := cell_below z4 b1
  have y5 := cell_below z5 b1
  have B1 := Lib.hid (bthen5 BA.out b1 BA.out.size)
  clear z0 z1 z2 z3 z4 z5 b1 BA KH
  replace KC := Lib.hid (KC.out _ B1.out)
  go_wp2_with fail
  with_reducible refine KC.out.mono ?_
  rintro e' w2 ⟨⟨v, rfl, hv⟩, hs2, hg⟩
  have HV := Lib.hid hv
  have HS2 := Lib.hid hs2
  have HG := Lib.hid (grown_trans (grown_any B1.out (some b)) hg)
  clear hv hs2 hg KC y0 y1 y2 y3 y4 y5
  go_wp2
  go_ret
  exact ⟨⟨_, rfl, by rw [HR.out]; exact HV.out⟩, fun _ => by rw [HR.out]; exact HS2.out, HG.out⟩
set_option maxHeartbeats 1600000 in
theorem stmt_2 (text : List Nat) (exprs : List Xe) (body els : List Xs) (place : Int) (hSb : ∀ s ∈ body, SC s) (hSe : ∀ s ∈ els, SC s) (hh : partsR 2 exprs.length body.isEmpty els.isEmpty = true) : SC (.mk 2 text exprs body els place) := by
  intro B cB g b fs res sc w v hc hs n3 n4 n5 hv
  obtain ⟨⟨K1, K2, K3⟩, rfl, ht, hk, hy, hf⟩ := hv
  simp only [Xs.text, Xs.exprs, Xs.body, Xs.els] at ht hk hy hf
  obtain ⟨A1, c1, rfl⟩ : ∃ A c, K1 = .slice A exprs.length c := xesC_slice hk
  obtain ⟨A2, c2, rfl⟩ := xssC_slice hy
  obtain ⟨A3, c3, rfl⟩ := xssC_slice hf
  have hB : B ≤ w.heap.size := by have := hc.lt; have := hc.hc; omega
  have BA := Lib.hid (below_alloc w (xsO 2 text (.slice A1 exprs.length c1) (.slice A2 body.length c2) (.slice A3 els.length c3) place))
  obtain ⟨z0, z1, z2, z3, z4, z5⟩ := xs_cells w 2 text (.slice A1 exprs.length c1) (.slice A2 body.length c2) (.slice A3 els.length c3) place
  have KH := Lib.hid (hasPartsC 2 text A1 A2 A3 exprs.length body.length els.length c1 c2 c3 place)
  rw [← isE, ← isE, hh] at KH
  unfold xsC
  simp only [Xs.op, Xs.text, Xs.place, Xs.exprs, Xs.body, Xs.els]
  have HR := Lib.hid (stm_2 (tabOf fs) res text exprs body els place sc hh)
  have HS := Lib.hid hs
  have KC : Hid (∀ w', Below w.heap.size w w' → Calls Tryz.prog 119 #[.pointer (some ⟨cB, 0, none⟩), .agg #[.int .i64 2, .string (strN text), .slice A1 exprs.length c1, .slice A2 body.length c2, .slice A3 els.length c3, .int .i64 place], .map (some b)] w' fun x w'' => FOut (setR sc text place (kidsM (tabOf fs) sc exprs)) x w'' ∧ Below w'.heap.size w' w'') := fun w' hb => setC 2 text exprs A1 A2 A3 body.length els.length c1 c2 c3 place B cB g b fs res sc w' (hc.below hb) (hs.below hb) ht (hk.same (same_below hb hB))
  generalize stmM (tabOf fs) res (.mk 2 text exprs body els place) sc = m at *
  clear hh hc hs hk hy hf hSb hSe n3 n4 n5 ht
  go_enter Tryz.func105, Tryz.ntmps105
  go_wp2_with fail
  generalize w.alloc (.cells #[.int .i64 2, .string (strN text), .slice A1 exprs.length c1, .slice A2 body.length c2, .slice A3 els.length c3, .int .i64 place] 48) = w0 at *
  with_reducible refine (KH.out _).mono ?_
  rintro e' w1 ⟨rfl, b1⟩
  have y0 := cell_below z0 b1
  have y1 := cell_below z1 b1
  have y2 := cell_below z2 b1
  have y3 := cell_below z3 b1
  have y4 := cell_below z4 b1
  have y5 := cell_below z5 b1
  have B1 := Lib.hid (bthen5 BA.out b1 BA.out.size)
  clear z0 z1 z2 z3 z4 z5 b1 BA KH
  replace KC := Lib.hid (KC.out _ B1.out)
  go_wp2_with fail
  with_reducible refine KC.out.mono ?_
  rintro e' w2 ⟨⟨v, rfl, hv⟩, b2⟩
  have HV := Lib.hid hv
  have B2 := Lib.hid (bthen5 B1.out b2 B1.out.size)
  clear hv b2 KC y0 y1 y2 y3 y4 y5
  go_wp2
  go_ret
  exact ⟨⟨_, rfl, by rw [HR.out]; exact HV.out⟩, fun _ => by rw [HR.out]; exact HS.out.below B2.out, grown_any B2.out _⟩
set_option maxHeartbeats 1600000 in
theorem stmt_3 (text : List Nat) (exprs : List Xe) (body els : List Xs) (place : Int) (hSb : ∀ s ∈ body, SC s) (hSe : ∀ s ∈ els, SC s) (hh : partsR 3 exprs.length body.isEmpty els.isEmpty = true) : SC (.mk 3 text exprs body els place) := by
  intro B cB g b fs res sc w v hc hs n3 n4 n5 hv
  obtain ⟨⟨K1, K2, K3⟩, rfl, ht, hk, hy, hf⟩ := hv
  simp only [Xs.text, Xs.exprs, Xs.body, Xs.els] at ht hk hy hf
  obtain ⟨A1, c1, rfl⟩ : ∃ A c, K1 = .slice A exprs.length c := xesC_slice hk
  obtain ⟨A2, c2, rfl⟩ := xssC_slice hy
  obtain ⟨A3, c3, rfl⟩ := xssC_slice hf
  have hB : B ≤ w.heap.size := by have := hc.lt; have := hc.hc; omega
  have BA := Lib.hid (below_alloc w (xsO 3 text (.slice A1 exprs.length c1) (.slice A2 body.length c2) (.slice A3 els.length c3) place))
  obtain ⟨z0, z1, z2, z3, z4, z5⟩ := xs_cells w 3 text (.slice A1 exprs.length c1) (.slice A2 body.length c2) (.slice A3 els.length c3) place
  have KH := Lib.hid (hasPartsC 3 text A1 A2 A3 exprs.length body.length els.length c1 c2 c3 place)
  rw [← isE, ← isE, hh] at KH
  unfold xsC
  simp only [Xs.op, Xs.text, Xs.place, Xs.exprs, Xs.body, Xs.els]
  have HR := Lib.hid (stm_3 (tabOf fs) res text exprs body els place sc hh)
  have HS := Lib.hid hs
  have KC : Hid (∀ w', Below w.heap.size w w' → Calls Tryz.prog 120 #[.pointer (some ⟨cB, 0, none⟩), .agg #[.int .i64 3, .string (strN text), .slice A1 exprs.length c1, .slice A2 body.length c2, .slice A3 els.length c3, .int .i64 place], .map (some b)] w' fun x w'' => FOut (ifR (allR (fun x => x == 2) (kidsM (tabOf fs) sc exprs)) (blockM (tabOf fs) res body sc).1 (blockM (tabOf fs) res els sc).1) x w'' ∧ Below w'.heap.size w' w'') := fun w' hb => choiceC 3 text exprs body els A1 A2 A3 c1 c2 c3 place hSb hSe B cB g b fs res sc w' (hc.below hb) (hs.below hb) ht (hk.same (same_below hb hB)) (hy.same (same_below hb hB)) (hf.same (same_below hb hB))
  generalize stmM (tabOf fs) res (.mk 3 text exprs body els place) sc = m at *
  clear hh hc hs hk hy hf hSb hSe n3 n4 n5 ht
  go_enter Tryz.func105, Tryz.ntmps105
  go_wp2_with fail
  generalize w.alloc (.cells #[.int .i64 3, .string (strN text), .slice A1 exprs.length c1, .slice A2 body.length c2, .slice A3 els.length c3, .int .i64 place] 48) = w0 at *
  with_reducible refine (KH.out _).mono ?_
  rintro e' w1 ⟨rfl, b1⟩
  have y0 := cell_below z0 b1
  have y1 := cell_below z1 b1
  have y2 := cell_below z2 b1
  have y3 := cell_below z3 b1
  have y4 := cell_below z4 b1
  have y5 := cell_below z5 b1
  have B1 := Lib.hid (bthen5 BA.out b1 BA.out.size)
  clear z0 z1 z2 z3 z4 z5 b1 BA KH
  replace KC := Lib.hid (KC.out _ B1.out)
  go_wp2_with fail
  with_reducible refine KC.out.mono ?_
  rintro e' w2 ⟨⟨v, rfl, hv⟩, b2⟩
  have HV := Lib.hid hv
  have B2 := Lib.hid (bthen5 B1.out b2 B1.out.size)
  clear hv b2 KC y0 y1 y2 y3 y4 y5
  go_wp2
  go_ret
  exact ⟨⟨_, rfl, by rw [HR.out]; exact HV.out⟩, fun _ => by rw [HR.out]; exact HS.out.below B2.out, grown_any B2.out _⟩
set_option maxHeartbeats 1600000 in
theorem stmt_4 (text : List Nat) (exprs : List Xe) (body els : List Xs) (place : Int) (hSb : ∀ s ∈ body, SC s) (hSe : ∀ s ∈ els, SC s) (hh : partsR 4 exprs.length body.isEmpty els.isEmpty = true) : SC (.mk 4 text exprs body els place) := by
  intro B cB g b fs res sc w v hc hs n3 n4 n5 hv
  obtain ⟨⟨K1, K2, K3⟩, rfl, ht, hk, hy, hf⟩ := hv
  simp only [Xs.text, Xs.exprs, Xs.body, Xs.els] at ht hk hy hf
  obtain ⟨A1, c1, rfl⟩ : ∃ A c, K1 = .slice A exprs.length c := xesC_slice hk
  obtain ⟨A2, c2, rfl⟩ := xssC_slice hy
  obtain ⟨A3, c3, rfl⟩ := xssC_slice hf
  have hB : B ≤ w.heap.size := by have := hc.lt; have := hc.hc; omega
  have BA := Lib.hid (below_alloc w (xsO 4 text (.slice A1 exprs.length c1) (.slice A2 body.length c2) (.slice A3 els.length c3) place))
  obtain ⟨z0, z1, z2, z3, z4, z5⟩ := xs_cells w 4 text (.slice A1 exprs.length c1) (.slice A2 body.length c2) (.slice A3 els.length c3) place
  have KH := Lib.hid (hasPartsC 4 text A1 A2 A3 exprs.length body.length els.length c1 c2 c3 place)
  rw [← isE, ← isE, hh] at KH
  unfold xsC
  simp only [Xs.op, Xs.text, Xs.place, Xs.exprs, Xs.body, Xs.els]
  have HR := Lib.hid (stm_4 (tabOf fs) res text exprs body els place sc hh)
  have HS := Lib.hid hs
  have KC : Hid (∀ w', Below w.heap.size w w' → Calls Tryz.prog 121 #[.pointer (some ⟨cB, 0, none⟩), .agg #[.int .i64 4, .string (strN text), .slice A1 exprs.length c1, .slice A2 body.length c2, .slice A3 els.length c3, .int .i64 place], .map (some b)] w' fun x w'' => FOut (forR (tabOf fs) res (allR (fun x => x == 1) (kidsM (tabOf fs) sc exprs)) sc text place body) x w'' ∧ Below w'.heap.size w' w'') := fun w' hb => loopC 4 text exprs body els A1 A2 A3 c1 c2 c3 place hSb hSe B cB g b fs res sc w' (hc.below hb) (hs.below hb) ht (hk.same (same_below hb hB)) (hy.same (same_below hb hB)) (hf.same (same_below hb hB))
  generalize stmM (tabOf fs) res (.mk 4 text exprs body els place) sc = m at *
  clear hh hc hs hk hy hf hSb hSe n3 n4 n5 ht
  go_enter Tryz.func105, Tryz.ntmps105
  go_wp2_with fail
  generalize w.alloc (.cells #[.int .i64 4, .string (strN text), .slice A1 exprs.length c1, .slice A2 body.length c2, .slice A3 els.length c3, .int .i64 place] 48) = w0 at *
  with_reducible refine (KH.out _).mono ?_
  rintro e' w1 ⟨rfl, b1⟩
  have y0 := cell_below z0 b1
  have y1 := cell_below z1 b1
  have y2 := cell_below z2 b1
  have y3 := cell_below z3 b1
  have y4 := cell_below z4 b1
  have y5 := cell_below z5 b1
  have B1 := Lib.hid (bthen5 BA.out b1 BA.out.size)
  clear z0 z1 z2 z3 z4 z5 b1 BA KH
  replace KC := Lib.hid (KC.out _ B1.out)
  go_wp2_with fail
  with_reducible refine KC.out.mono ?_
  rintro e' w2 ⟨⟨v, rfl, hv⟩, b2⟩
  have HV := Lib.hid hv
  have B2 := Lib.hid (bthen5 B1.out b2 B1.out.size)
  clear hv b2 KC y0 y1 y2 y3 y4 y5
  go_wp2
  go_ret
  exact ⟨⟨_, rfl, by rw [HR.out]; exact HV.out⟩, fun _ => by rw [HR.out]; exact HS.out.below B2.out, grown_any B2.out _⟩
set_option maxHeartbeats 1600000 in
theorem stmt_5 (text : List Nat) (exprs : List Xe) (body els : List Xs) (place : Int) (hSb : ∀ s ∈ body, SC s) (hSe : ∀ s ∈ els, SC s) (hh : partsR 5 exprs.length body.isEmpty els.isEmpty = true) : SC (.mk 5 text exprs body els place) := by
  intro B cB g b fs res sc w v hc hs n3 n4 n5 hv
  obtain ⟨⟨K1, K2, K3⟩, rfl, ht, hk, hy, hf⟩ := hv
  simp only [Xs.text, Xs.exprs, Xs.body, Xs.els] at ht hk hy hf
  obtain ⟨A1, c1, rfl⟩ : ∃ A c, K1 = .slice A exprs.length c := xesC_slice hk
  obtain ⟨A2, c2, rfl⟩ := xssC_slice hy
  obtain ⟨A3, c3, rfl⟩ := xssC_slice hf
  have hB : B ≤ w.heap.size := by have := hc.lt; have := hc.hc; omega
  have BA := Lib.hid (below_alloc w (xsO 5 text (.slice A1 exprs.length c1) (.slice A2 body.length c2) (.slice A3 els.length c3) place))
  obtain ⟨z0, z1, z2, z3, z4, z5⟩ := xs_cells w 5 text (.slice A1 exprs.length c1) (.slice A2 body.length c2) (.slice A3 els.length c3) place
  have KH := Lib.hid (hasPartsC 5 text A1 A2 A3 exprs.length body.length els.length c1 c2 c3 place)
  rw [← isE, ← isE, hh] at KH
  unfold xsC
  simp only [Xs.op, Xs.text, Xs.place, Xs.exprs, Xs.body, Xs.els]
  have HR := Lib.hid (stm_5 (tabOf fs) res text exprs body els place sc hh)
  have HS := Lib.hid hs
  have KC : Hid (∀ w', Below w.heap.size w w' → Calls Tryz.prog 122 #[.pointer (some ⟨cB, 0, none⟩), .agg #[.int .i64 5, .string (strN text), .slice A1 exprs.length c1, .slice A2 body.length c2, .slice A3 els.length c3, .int .i64 place], .map (some b)] w' fun x w'' => FOut (endR res place (kidsM (tabOf fs) sc exprs)) x w'' ∧ Below w'.heap.size w' w'') := fun w' hb => endC 5 text exprs A1 A2 A3 body.length els.length c1 c2 c3 place B cB g b fs res sc w' (hc.below hb) (hs.below hb) ht (hk.same (same_below hb hB))
  generalize stmM (tabOf fs) res (.mk 5 text exprs body els place) sc = m at *
  clear hh hc hs hk hy hf hSb hSe n3 n4 n5 ht
  go_enter Tryz.func105, Tryz.ntmps105
  go_wp2_with fail
  generalize w.alloc (.cells #[.int .i64 5, .string (strN text), .slice A1 exprs.length c1, .slice A2 body.length c2, .slice A3 els.length c3, .int .i64 place] 48) = w0 at *
  with_reducible refine (KH.out _).mono ?_
  rintro e' w1 ⟨rfl, b1⟩
  have y0 := cell_below z0 b1
  have y1 := cell_below z1 b1
  have y2 := cell_below z2 b1
  have y3 := cell_below z3 b1
  have y4 := cell_below z4 b1
  have y5 := cell_below z5 b1
  have B1 := Lib.hid (bthen5 BA.out b1 BA.out.size)
  clear z0 z1 z2 z3 z4 z5 b1 BA KH
  replace KC := Lib.hid (KC.out _ B1.out)
  go_wp2_with fail
  with_reducible refine KC.out.mono ?_
  rintro e' w2 ⟨⟨v, rfl, hv⟩, b2⟩
  have HV := Lib.hid hv
  have B2 := Lib.hid (bthen5 B1.out b2 B1.out.size)
  clear hv b2 KC y0 y1 y2 y3 y4 y5
  go_wp2
  go_ret
  exact ⟨⟨_, rfl, by rw [HR.out]; exact HV.out⟩, fun _ => by rw [HR.out]; exact HS.out.below B2.out, grown_any B2.out _⟩
set_option maxHeartbeats 1600000 in
theorem stmt_8 (e : Xe) (text : List Nat) (body els : List Xs) (place : Int) (hSb : ∀ s ∈ body, SC s) (hSe : ∀ s ∈ els, SC s) (hh : partsR 8 1 body.isEmpty els.isEmpty = true) : SC (.mk 8 text [e] body els place) := by
  intro B cB g b fs res sc w v hc hs n3 n4 n5 hv
  obtain ⟨⟨K1, K2, K3⟩, rfl, ht, hk, hy, hf⟩ := hv
  simp only [Xs.text, Xs.exprs, Xs.body, Xs.els] at ht hk hy hf
  obtain ⟨A1, c1, rfl⟩ : ∃ A c, K1 = .slice A 1 c := xesC_slice hk
  obtain ⟨A2, c2, rfl⟩ := xssC_slice hy
  obtain ⟨A3, c3, rfl⟩ := xssC_slice hf
  have hB : B ≤ w.heap.size := by have := hc.lt; have := hc.hc; omega
  have BA := Lib.hid (below_alloc w (xsO 8 text (.slice A1 1 c1) (.slice A2 body.length c2) (.slice A3 els.length c3) place))
  obtain ⟨z0, z1, z2, z3, z4, z5⟩ := xs_cells w 8 text (.slice A1 1 c1) (.slice A2 body.length c2) (.slice A3 els.length c3) place
  have KH := Lib.hid (hasPartsC 8 text A1 A2 A3 1 body.length els.length c1 c2 c3 place)
  rw [← isE, ← isE, hh] at KH
  unfold xsC
  simp only [Xs.op, Xs.text, Xs.place, Xs.exprs, Xs.body, Xs.els]
  have HR := Lib.hid (stm_8 (tabOf fs) res text e body els place sc hh)
  have HS := Lib.hid hs
  have KC : Hid (∀ w', Below w.heap.size w w' → Calls Tryz.prog 123 #[.pointer (some ⟨cB, 0, none⟩), .agg #[.int .i64 8, .string (strN text), .slice A1 1 c1, .slice A2 body.length c2, .slice A3 els.length c3, .int .i64 place], .map (some b)] w' fun x w'' => FOut (allR (fun _ => e.op == 5) (kidsM (tabOf fs) sc [e])) x w'' ∧ Below w'.heap.size w' w'') := fun w' hb => doC 8 text e A2 A3 body.length els.length c2 c3 place B cB g b fs res sc w' _ (hc.below hb) (hs.below hb) (hk.same (same_below hb hB))
  generalize stmM (tabOf fs) res (.mk 8 text [e] body els place) sc = m at *
  clear hh hc hs hk hy hf hSb hSe n3 n4 n5 ht
  go_enter Tryz.func105, Tryz.ntmps105
  go_wp2_with fail
  generalize w.alloc (.cells #[.int .i64 8, .string (strN text), .slice A1 1 c1, .slice A2 body.length c2, .slice A3 els.length c3, .int .i64 place] 48) = w0 at *
  with_reducible refine (KH.out _).mono ?_
  rintro e' w1 ⟨rfl, b1⟩
  have y0 := cell_below z0 b1
  have y1 := cell_below z1 b1
  have y2 := cell_below z2 b1
  have y3 := cell_below z3 b1
  have y4 := cell_below z4 b1
  have y5 := cell_below z5 b1
  have B1 := Lib.hid (bthen5 BA.out b1 BA.out.size)
  clear z0 z1 z2 z3 z4 z5 b1 BA KH
  replace KC := Lib.hid (KC.out _ B1.out)
  go_wp2_with fail
  with_reducible refine KC.out.mono ?_
  rintro e' w2 ⟨⟨v, rfl, hv⟩, b2⟩
  have HV := Lib.hid hv
  have B2 := Lib.hid (bthen5 B1.out b2 B1.out.size)
  clear hv b2 KC y0 y1 y2 y3 y4 y5
  go_wp2
  go_ret
  exact ⟨⟨_, rfl, by rw [HR.out]; exact HV.out⟩, fun _ => by rw [HR.out]; exact HS.out.below B2.out, grown_any B2.out _⟩
set_option maxHeartbeats 1600000 in
theorem stmt_67 (op : Int) (text : List Nat) (exprs : List Xe) (body els : List Xs) (place : Int) (hSb : ∀ s ∈ body, SC s) (hSe : ∀ s ∈ els, SC s) (hh : partsR op exprs.length body.isEmpty els.isEmpty = true) (h1 : ¬ op = 1) (h2 : ¬ op = 2) (h3 : ¬ op = 3) (h4 : ¬ op = 4) (h5 : ¬ op = 5) (h8 : ¬ op = 8) : SC (.mk op text exprs body els place) := by
  intro B cB g b fs res sc w v hc hs n3 n4 n5 hv
  obtain ⟨⟨K1, K2, K3⟩, rfl, ht, hk, hy, hf⟩ := hv
  simp only [Xs.text, Xs.exprs, Xs.body, Xs.els] at ht hk hy hf
  obtain ⟨A1, c1, rfl⟩ : ∃ A c, K1 = .slice A exprs.length c := xesC_slice hk
  obtain ⟨A2, c2, rfl⟩ := xssC_slice hy
  obtain ⟨A3, c3, rfl⟩ := xssC_slice hf
  have hB : B ≤ w.heap.size := by have := hc.lt; have := hc.hc; omega
  have BA := Lib.hid (below_alloc w (xsO op text (.slice A1 exprs.length c1) (.slice A2 body.length c2) (.slice A3 els.length c3) place))
  obtain ⟨z0, z1, z2, z3, z4, z5⟩ := xs_cells w op text (.slice A1 exprs.length c1) (.slice A2 body.length c2) (.slice A3 els.length c3) place
  have KH := Lib.hid (hasPartsC op text A1 A2 A3 exprs.length body.length els.length c1 c2 c3 place)
  rw [← isE, ← isE, hh] at KH
  unfold xsC
  simp only [Xs.op, Xs.text, Xs.place, Xs.exprs, Xs.body, Xs.els]
  have HR := Lib.hid (stm_67 (tabOf fs) res op text exprs body els place sc hh h1 h2 h3 h4 h5 h8)
  have HS := Lib.hid hs
  have HKO : Hid (∀ w' fv, Below w.heap.size w w' → FitV w' fv (fun x => x == 3) → Calls Tryz.prog 124 #[.pointer (some ⟨cB, 0, none⟩), .slice A1 exprs.length c1, .map (some b), fv] w' fun x w'' => FOut (allR (fun x => x == 3) (kidsM (tabOf fs) sc exprs)) x w'' ∧ Below w'.heap.size w' w'') :=
    fun w' fv hb hf => operandsC exprs (fun e _ => ec e) B cB g b fs res sc w' _ fv _ (hc.below hb) (hs.below hb) (hk.same (same_below hb hB)) hf
  have q1 : (op == 1) = false := ne_beq h1
  have q2 : (op == 2) = false := ne_beq h2
  have q3 : (op == 3) = false := ne_beq h3
  have q4 : (op == 4) = false := ne_beq h4
  have q5 : (op == 5) = false := ne_beq h5
  have q8 : (op == 8) = false := ne_beq h8
  generalize stmM (tabOf fs) res (.mk op text exprs body els place) sc = m at *
  clear hh h1 h2 h3 h4 h5 h8 hc hs hk hy hf hSb hSe n3 n4 n5 ht
  go_enter Tryz.func105, Tryz.ntmps105
  go_wp2_with fail
  generalize w.alloc (.cells #[.int .i64 op, .string (strN text), .slice A1 exprs.length c1, .slice A2 body.length c2, .slice A3 els.length c3, .int .i64 place] 48) = w0 at *
  with_reducible refine (KH.out _).mono ?_
  rintro e' w1 ⟨rfl, b1⟩
  have y0 := cell_below z0 b1
  have y1 := cell_below z1 b1
  have y2 := cell_below z2 b1
  have y3 := cell_below z3 b1
  have y4 := cell_below z4 b1
  have y5 := cell_below z5 b1
  have B1 := Lib.hid (bthen5 BA.out b1 BA.out.size)
  clear z0 z1 z2 z3 z4 z5 b1 BA KH
  clear y1 y3 y4 y5
  go_upto_region 16 with fail
  have hbl : Below w1.heap.size w1 w1.drew := (Below.refl _ _).drew
  have HQ : Hid (∀ w', Below w1.heap.size w1 w' → w'.cell? ⟨w.heap.size, 2, none⟩ = some (.slice A1 exprs.length c1)) := fun w' hb => cell_below y2 hb
  clear y0 y2
  go_region_held3 (fun w' => w'.cell? ⟨w.heap.size, 2, none⟩ = some (.slice A1 exprs.length c1))
    (with_reducible exact HQ.out _ hbl)
    (first | (go_at_call 125; refine (isC _ _).mono ?_; rintro e wn ⟨v, rfl, hf, hbn⟩; have HFT := Lib.hid hf.less; obtain ⟨fn, caps, D, rfl, _⟩ := hf; replace hbl := bthen5 hbl hbn hbl.size) | (go_at_call 124; refine (HKO.out _ _ (bthen5 B1.out hbl B1.out.size) HFT.out).mono ?_; rintro e wn2 ⟨⟨v, rfl, hv⟩, hbn2⟩; replace hbl := bthen5 hbl hbn2 hbl.size))
  have HV := Lib.hid hv
  have B2 := Lib.hid (bthen5 B1.out hbl B1.out.size)
  clear hbn hbn2 hbl HQ hv HKO
  go_wp2
  go_ret
  exact ⟨⟨_, rfl, by rw [HR.out]; exact HV.out⟩, fun _ => by rw [HR.out]; exact HS.out.below B2.out, grown_any B2.out _⟩
theorem stmtC (op : Int) (text : List Nat) (exprs : List Xe) (body els : List Xs) (place : Int) (hSb : ∀ s ∈ body, SC s) (hSe : ∀ s ∈ els, SC s) : SC (.mk op text exprs body els place) := by
  cases hh : partsR op exprs.length body.isEmpty els.isEmpty with
  | false => exact stmt_bad op text exprs body els place hSb hSe hh
  | true =>
    have hops := parts_op hh
    by_cases h1 : op = 1
    · subst h1
      match exprs, (show exprs.length = 1 by omega) with
      | [e], _ => exact stmt_1 e text body els place hSb hSe hh
    by_cases h8 : op = 8
    · subst h8
      match exprs, (show exprs.length = 1 by omega) with
      | [e], _ => exact stmt_8 e text body els place hSb hSe hh
    by_cases h2 : op = 2
    · subst h2; exact stmt_2 text exprs body els place hSb hSe hh
    by_cases h3 : op = 3
    · subst h3; exact stmt_3 text exprs body els place hSb hSe hh
    by_cases h4 : op = 4
    · subst h4; exact stmt_4 text exprs body els place hSb hSe hh
    by_cases h5 : op = 5
    · subst h5; exact stmt_5 text exprs body els place hSb hSe hh
    exact stmt_67 op text exprs body els place hSb hSe hh h1 h2 h3 h4 h5 h8
theorem scAll : ∀ (n : Nat) (s : Xs), SizeOf.sizeOf s ≤ n → SC s
  | 0, .mk op text exprs body els place, h => by simp at h
  | n + 1, .mk op text exprs body els place, h => by
    refine stmtC op text exprs body els place (fun s hs => scAll n s ?_) (fun s hs => scAll n s ?_)
    · have := List.sizeOf_lt_of_mem hs
      simp at h
      omega
    · have := List.sizeOf_lt_of_mem hs
      simp at h
      omega
theorem scT (s : Xs) : SC s := scAll _ s (Nat.le_refl _)
end

section
open Go.RowKit
set_option maxRecDepth 100000
set_option linter.unusedSimpArgs false
set_option linter.unusedVariables false

theorem XssC.get5 {w : World} {D : Nat → Prop} {l : List Xs} {V : Value} (h : XssC w D l V) {i : Nat} {s : Xs} (he : l[i]? = some s) : ∃ (kb ko c : Nat) (A1 A2 A3 : Option Addr) (c1 c2 c3 : Nat), V = .slice (some ⟨kb, ko, none⟩) l.length c ∧ l.length ≤ c ∧ c ≤ maxLen ∧
    w.rangeAt kb (ko + i * 6) (xsC s (.slice A1 s.exprs.length c1) (.slice A2 s.body.length c2) (.slice A3 s.els.length c3)) ∧ XssC w D s.body (.slice A2 s.body.length c2) ∧ XssC w D s.els (.slice A3 s.els.length c3) := by
  obtain ⟨ks, hst⟩ := h.ks
  have hi := (List.getElem?_eq_some_iff.1 he).1
  obtain ⟨k, hk'⟩ : ∃ k, ks[i]? = some k := ⟨ks[i]'(by rw [hst.len]; exact hi), List.getElem?_eq_getElem _⟩
  have hg := fun j hj => zip_get5 (f := fun (s : Xs) (k : Three) => xsC s k.e k.b k.f) (m := 6) (fun _ _ => rfl) l ks i j s k he hk' hj
  have x1 := hst.e i s k he hk'
  have x2 := hst.b i s k he hk'
  have x3 := hst.f i s k he hk'
  obtain ⟨A1, c1, e1⟩ := xesC_slice x1
  obtain ⟨A2, c2, e2⟩ := xssC_slice x2
  obtain ⟨A3, c3, e3⟩ := xssC_slice x3
  rw [e2] at x2
  rw [e3] at x3
  obtain ⟨b, o, c, rfl, a1, a2, a3, a4⟩ := hst.row.plain5 (by
    intro e0
    have := hg 0 (by omega)
    unfold xssC at e0
    rw [e0] at this
    simp [xsC] at this)
  refine ⟨b, o, c, A1, A2, A3, c1, c2, c3, rfl, a1, a2, fun j v hv => ?_, x2, x3⟩
  have hj : j < 6 := by
    have := (List.getElem?_eq_some_iff.1 hv).1
    simpa [xsC] using this
  rw [Nat.add_assoc]
  refine a4 _ v ((hg j hj).trans ?_)
  show (xsC s k.e k.b k.f)[j]? = _
  rw [e1, e2, e3]
  exact hv
def dcN (op n : Int) : Int := if op = 1 ∨ op = 4 then wrap64 (n + 1) else n
theorem dcl1_eq (s : Xs) (n : Int) : dcl1 s n = wrap64 (dcN s.op n + wrap64 (dcl s.body 0 + dcl s.els 0)) := by
  obtain ⟨op, text, exprs, body, els, place⟩ := s
  unfold dcl1
  by_cases h : op = 1 ∨ op = 4 <;> simp [dcN, h, Xs.op, Xs.body, Xs.els]
theorem dcl_cons (s : Xs) (l : List Xs) (n : Int) : dcl (s :: l) n = dcl l (dcl1 s n) := by simp [dcl]
theorem info48s : (Tryz.prog.info? 48).map (·.size) = some 6 := by kernel_rfl
def DC (l : List Xs) : Prop := ∀ (V : Value) (w : World) (B : Nat), B ≤ w.heap.size → XssC w (Lo B) l V → Calls Tryz.prog 82 #[V] w fun e w' => e = .returned (.int .i64 (dcl l 0)) ∧ Below w.heap.size w w'
set_option maxHeartbeats 1200000 in
theorem declC (l : List Xs) (hD : ∀ s ∈ l, DC s.body ∧ DC s.els) : DC l := by
  intro V w B hB hV
  obtain ⟨A, c, rfl⟩ := xssC_slice hV
  have HV := Lib.hid hV
  have HD := Lib.hid hD
  have hmx : l.length ≤ 9223372036854775807 := by obtain ⟨ks, h⟩ := hV.ks; exact h.row.len5
  clear hV hD
  go_enter Tryz.func82, Tryz.ntmps82
  go_wp2
  go_loopw [3, 5, 8] (fun n _ i wr => ∃ (k : Nat) (n' : Int), k ≤ l.length ∧ i = .int .i64 k ∧ n = .int .i64 n' ∧ Hid (Below w.heap.size w wr ∧ dcl l 0 = dcl (l.drop k) n')) (fun _ _ i _ => l.length - (intOf i).toNat)
  case atStart => exact ⟨0, 0, Nat.zero_le _, rfl, rfl, Below.refl _ _, rfl⟩
  case round =>
    obtain ⟨k, n', hk, rfl, rfl, HRel⟩ := hrel
    by_cases hlt : k < l.length
    · obtain ⟨s, hs⟩ : ∃ s, l[k]? = some s := ⟨_, List.getElem?_eq_getElem hlt⟩
      obtain ⟨kb, ko, c', A1, A2, A3, c1, c2, c3, hVe, a1, a2, hrg, hy, hf⟩ := (HV.out.same (same_below HRel.out.1 hB)).get5 hs
      injection hVe with hV1 hV2 hV3
      subst hV1 hV3
      have hDs := HD.out s (List.mem_of_getElem? hs)
      have hBr : B ≤ wr.heap.size := by have := HRel.out.1.size; omega
      have HRG := Lib.hid hrg
      have BW := Lib.hid (below_alloc wr (xsO s.op s.text (.slice A1 s.exprs.length c1) (.slice A2 s.body.length c2) (.slice A3 s.els.length c3) s.place))
      obtain ⟨z0, z1, z2, z3, z4, z5⟩ := xs_cells wr s.op s.text (.slice A1 s.exprs.length c1) (.slice A2 s.body.length c2) (.slice A3 s.els.length c3) s.place
      have KB : Hid (∀ w', Below wr.heap.size wr w' → Calls Tryz.prog 82 #[.slice A2 s.body.length c2] w' fun e w'' => e = .returned (.int .i64 (dcl s.body 0)) ∧ Below w'.heap.size w' w'') := fun w' hb => hDs.1 _ w' B (by have := hb.size; omega) (hy.same (same_below hb hBr))
      have KF : Hid (∀ w', Below wr.heap.size wr w' → Calls Tryz.prog 82 #[.slice A3 s.els.length c3] w' fun e w'' => e = .returned (.int .i64 (dcl s.els 0)) ∧ Below w'.heap.size w' w'') := fun w' hb => hDs.2 _ w' B (by have := hb.size; omega) (hf.same (same_below hb hBr))
      have HB3 := Lib.hid (bthen5 HRel.out.1 BW.out HRel.out.1.size)
      have HStep : Hid (dcl l 0 = dcl (l.drop (k + 1)) (wrap64 (dcN s.op n' + wrap64 (dcl s.body 0 + dcl s.els 0)))) := by
        show _ = _
        rw [HRel.out.2, drop_get hs, dcl_cons, dcl1_eq]
      unfold maxLen at a2
      generalize dcl l 0 = DL at *
      generalize dcl s.body 0 = d1 at *
      generalize dcl s.els 0 = d2 at *
      unfold xsC at *
      clear hrg hy hf hDs hs hV2 HRel
      go_wp2_with (first | (refine wpList_load_mid rfl 48 (.tmp 10) rfl kb (ko + k * 6) rfl [.int .i64 s.op, .string (strN s.text), .slice A1 s.exprs.length c1, .slice A2 s.body.length c2, .slice A3 s.els.length c3, .int .i64 s.place] _ HRG.out Tryz.underlying48 rfl info48s ?_; refine Hid.out ?_) | fail)
      refine Lib.hid ?_
      go_upto_region 5 with fail
      generalize wr.alloc (.cells #[.int .i64 s.op, .string (strN s.text), .slice A1 s.exprs.length c1, .slice A2 s.body.length c2, .slice A3 s.els.length c3, .int .i64 s.place] 48) = w3 at *
      have key : ∀ (x : Int), Hid (DL = dcl (l.drop (k + 1)) (wrap64 (x + wrap64 (d1 + d2)))) → True := fun _ _ => trivial
      by_cases ho : s.op = 1 ∨ s.op = 4
      · have hx : Hid (DL = dcl (l.drop (k + 1)) (wrap64 (wrap64 (n' + 1) + wrap64 (d1 + d2)))) := by show _ = _; rw [HStep.out, dcN, if_pos ho]
        clear HStep key
        by_cases h1 : s.op = 1
        · have q1 : (s.op == 1) = true := by rw [beq_iff_eq]; exact h1
          clear h1 ho
          go_upto_region 7 with fail
          have hbl : Below w3.heap.size w3 w3.drew := (Below.refl _ _).drew
          have HQ : Hid (∀ w', Below w3.heap.size w3 w' → w'.cell? ⟨wr.heap.size, 3, none⟩ = some (.slice A2 s.body.length c2) ∧ w'.cell? ⟨wr.heap.size, 4, none⟩ = some (.slice A3 s.els.length c3)) := fun w' hb => ⟨cell_below z3 hb, cell_below z4 hb⟩
          go_region_held3 (fun w' => w'.cell? ⟨wr.heap.size, 3, none⟩ = some (.slice A2 s.body.length c2) ∧ w'.cell? ⟨wr.heap.size, 4, none⟩ = some (.slice A3 s.els.length c3))
            (with_reducible exact HQ.out _ hbl)
            (first | (with_reducible refine (KB.out _ (bthen5 BW.out hbl BW.out.size)).mono ?_; rintro e wn ⟨rfl, hbn⟩; replace hbl := bthen5 hbl hbn hbl.size) | (with_reducible refine (KF.out _ (bthen5 BW.out hbl BW.out.size)).mono ?_; rintro e wn2 ⟨rfl, hbn2⟩; replace hbl := bthen5 hbl hbn2 hbl.size))
          have HB4 := Lib.hid (bthen5 HB3.out hbl HB3.out.size)
          clear hbl HQ z0 z1 z2 z3 z4 z5
          go_wp2
          go_roundw
          case rel => exact ⟨k + 1, _, by omega, by go_num, rfl, HB4.out, by simp only [IntWalk.i64_left]; exact hx.out⟩
          case measure => simp [intOf]; omega
        · have q1 : (s.op == 1) = false := ne_beq h1
          have q4 : (s.op == 4) = true := by rw [beq_iff_eq]; omega
          clear h1 ho
          go_upto_region 7 with fail
          have hbl : Below w3.heap.size w3 w3.drew := (Below.refl _ _).drew
          have HQ : Hid (∀ w', Below w3.heap.size w3 w' → w'.cell? ⟨wr.heap.size, 3, none⟩ = some (.slice A2 s.body.length c2) ∧ w'.cell? ⟨wr.heap.size, 4, none⟩ = some (.slice A3 s.els.length c3)) := fun w' hb => ⟨cell_below z3 hb, cell_below z4 hb⟩
          go_region_held3 (fun w' => w'.cell? ⟨wr.heap.size, 3, none⟩ = some (.slice A2 s.body.length c2) ∧ w'.cell? ⟨wr.heap.size, 4, none⟩ = some (.slice A3 s.els.length c3))
            (with_reducible exact HQ.out _ hbl)
            (first | (with_reducible refine (KB.out _ (bthen5 BW.out hbl BW.out.size)).mono ?_; rintro e wn ⟨rfl, hbn⟩; replace hbl := bthen5 hbl hbn hbl.size) | (with_reducible refine (KF.out _ (bthen5 BW.out hbl BW.out.size)).mono ?_; rintro e wn2 ⟨rfl, hbn2⟩; replace hbl := bthen5 hbl hbn2 hbl.size))
          have HB4 := Lib.hid (bthen5 HB3.out hbl HB3.out.size)
          clear hbl HQ z0 z1 z2 z3 z4 z5
          go_wp2
          go_roundw
          case rel => exact ⟨k + 1, _, by omega, by go_num, rfl, HB4.out, by simp only [IntWalk.i64_left]; exact hx.out⟩
          case measure => simp [intOf]; omega
      · have hx : Hid (DL = dcl (l.drop (k + 1)) (wrap64 (n' + wrap64 (d1 + d2)))) := by show _ = _; rw [HStep.out, dcN, if_neg ho]
        have q1 : (s.op == 1) = false := ne_beq (by omega)
        have q4 : (s.op == 4) = false := ne_beq (by omega)
        clear HStep key ho
        go_upto_region 7 with fail
        have hbl : Below w3.heap.size w3 w3.drew := (Below.refl _ _).drew
        have HQ : Hid (∀ w', Below w3.heap.size w3 w' → w'.cell? ⟨wr.heap.size, 3, none⟩ = some (.slice A2 s.body.length c2) ∧ w'.cell? ⟨wr.heap.size, 4, none⟩ = some (.slice A3 s.els.length c3)) := fun w' hb => ⟨cell_below z3 hb, cell_below z4 hb⟩
        go_region_held3 (fun w' => w'.cell? ⟨wr.heap.size, 3, none⟩ = some (.slice A2 s.body.length c2) ∧ w'.cell? ⟨wr.heap.size, 4, none⟩ = some (.slice A3 s.els.length c3))
          (with_reducible exact HQ.out _ hbl)
          (first | (with_reducible refine (KB.out _ (bthen5 BW.out hbl BW.out.size)).mono ?_; rintro e wn ⟨rfl, hbn⟩; replace hbl := bthen5 hbl hbn hbl.size) | (with_reducible refine (KF.out _ (bthen5 BW.out hbl BW.out.size)).mono ?_; rintro e wn2 ⟨rfl, hbn2⟩; replace hbl := bthen5 hbl hbn2 hbl.size))
        have HB4 := Lib.hid (bthen5 HB3.out hbl HB3.out.size)
        clear hbl HQ z0 z1 z2 z3 z4 z5
        go_wp2
        go_roundw
        case rel => exact ⟨k + 1, _, by omega, by go_num, rfl, HB4.out, by simp only [IntWalk.i64_left]; exact hx.out⟩
        case measure => simp [intOf]; omega
    · obtain rfl : k = l.length := by omega
      have HT : Hid (dcl l 0 = n') := by show _ = _; rw [HRel.out.2, List.drop_length]; rfl
      have HB4 := Lib.hid HRel.out.1
      clear HRel
      go_wp2
      go_ret
      exact ⟨by rw [HT.out]; rfl, HB4.out⟩
theorem dcAll : ∀ (n : Nat) (l : List Xs), SizeOf.sizeOf l ≤ n → DC l
  | 0, l, h => by cases l <;> simp at h
  | n + 1, l, h => by
    refine declC l fun s hs => ?_
    have h1 := List.sizeOf_lt_of_mem hs
    obtain ⟨op, text, exprs, body, els, place⟩ := s
    simp at h1
    exact ⟨dcAll n _ (by show SizeOf.sizeOf body ≤ n; omega), dcAll n _ (by show SizeOf.sizeOf els ≤ n; omega)⟩
theorem dcT (l : List Xs) : DC l := dcAll _ l (Nat.le_refl _)
theorem ends_last : ∀ (l : List Xs) (n : Nat) (s : Xs), l.length = n + 1 → l[n]? = some s → endsM l = ends1 s
  | [], n, s, h, _ => by simp at h
  | [x], n, s, h, hs => by
    obtain rfl : n = 0 := by simpa using h.symm
    simp at hs
    subst hs
    simp [endsM]
  | x :: y :: l, 0, s, h, _ => by simp at h
  | x :: y :: l, n + 1, s, h, hs => by
    have := ends_last (y :: l) n s (by simpa using h) (by simpa using hs)
    rw [← this]
    simp [endsM]
theorem ends1_eq (s : Xs) : ends1 s = (s.op == 5 || (s.op == 3 && endsM s.body && endsM s.els)) := by
  obtain ⟨op, text, exprs, body, els, place⟩ := s
  simp [ends1, Xs.op, Xs.body, Xs.els]
def EndC (l : List Xs) : Prop := ∀ (V : Value) (w : World) (B : Nat), B ≤ w.heap.size → XssC w (Lo B) l V → Calls Tryz.prog 84 #[V] w fun e w' => e = .returned (.bool (endsM l)) ∧ Below w.heap.size w w'
set_option maxHeartbeats 1600000 in
theorem endsC (l : List Xs) (hD : ∀ s ∈ l, EndC s.body ∧ EndC s.els) : EndC l := by
  intro V w B hB hV
  obtain ⟨A, c, rfl⟩ := xssC_slice hV
  by_cases h0 : l.length = 0
  · have hl : l = [] := List.eq_nil_of_length_eq_zero h0
    have HE : Hid (endsM l = false) := by show _ = _; rw [hl]; simp [endsM]
    have q : ((l.length : Int) == 0) = true := by rw [h0]; rfl
    clear hV hD hl h0
    go_enter Tryz.func84, Tryz.ntmps84
    go_wp2
    go_ret
    exact ⟨by rw [HE.out]; rfl, Below.refl _ _⟩
  · obtain ⟨n, hn⟩ : ∃ n, l.length = n + 1 := ⟨l.length - 1, by omega⟩
    obtain ⟨s, hs⟩ : ∃ s, l[n]? = some s := ⟨_, List.getElem?_eq_getElem (by omega)⟩
    obtain ⟨kb, ko, c', A1, A2, A3, c1, c2, c3, hVe, a1, a2, hrg, hy, hf⟩ := hV.get5 hs
    injection hVe with hV1 hV2 hV3
    subst hV1 hV3
    have hDs := hD s (List.mem_of_getElem? hs)
    have HE : Hid (endsM l = (s.op == 5 || (s.op == 3 && endsM s.body && endsM s.els))) := by show _ = _; rw [ends_last l n s hn hs, ends1_eq]
    have HRG := Lib.hid hrg
    have BW := Lib.hid (below_alloc w (xsO s.op s.text (.slice A1 s.exprs.length c1) (.slice A2 s.body.length c2) (.slice A3 s.els.length c3) s.place))
    obtain ⟨z0, z1, z2, z3, z4, z5⟩ := xs_cells w s.op s.text (.slice A1 s.exprs.length c1) (.slice A2 s.body.length c2) (.slice A3 s.els.length c3) s.place
    have KB : Hid (∀ w', Below w.heap.size w w' → Calls Tryz.prog 84 #[.slice A2 s.body.length c2] w' fun e w'' => e = .returned (.bool (endsM s.body)) ∧ Below w'.heap.size w' w'') := fun w' hb => hDs.1 _ w' B (by have := hb.size; omega) (hy.same (same_below hb hB))
    have KF : Hid (∀ w', Below w.heap.size w w' → Calls Tryz.prog 84 #[.slice A3 s.els.length c3] w' fun e w'' => e = .returned (.bool (endsM s.els)) ∧ Below w'.heap.size w' w'') := fun w' hb => hDs.2 _ w' B (by have := hb.size; omega) (hf.same (same_below hb hB))
    unfold maxLen at a2
    rw [hn] at a1 h0
    rw [show (Value.slice (some ⟨kb, ko, none⟩) l.length c) = .slice (some ⟨kb, ko, none⟩) (n + 1) c by rw [hn]]
    generalize endsM l = el at *
    generalize endsM s.body = e1 at *
    generalize endsM s.els = e2 at *
    unfold xsC at *
    clear hrg hy hf hDs hs hV2 hV hD hn h0
    go_enter Tryz.func84, Tryz.ntmps84
    go_wp2_with (first | (refine wpList_load_mid rfl 48 (.tmp 11) rfl kb (ko + n * 6) rfl [.int .i64 s.op, .string (strN s.text), .slice A1 s.exprs.length c1, .slice A2 s.body.length c2, .slice A3 s.els.length c3, .int .i64 s.place] _ HRG.out Tryz.underlying48 rfl info48s ?_; refine Hid.out ?_) | fail)
    refine Lib.hid ?_
    go_upto_region 4 with fail
    generalize w.alloc (.cells #[.int .i64 s.op, .string (strN s.text), .slice A1 s.exprs.length c1, .slice A2 s.body.length c2, .slice A3 s.els.length c3, .int .i64 s.place] 48) = w3 at *
    by_cases h5 : s.op = 5
    · have q5 : (s.op == 5) = true := by rw [beq_iff_eq]; exact h5
      have HE2 : Hid (el = true) := by show _ = _; rw [HE.out, q5]; rfl
      clear h5 HE
      go_wp2
      go_ret
      exact ⟨by rw [HE2.out]; rfl, BW.out⟩
    · have q5 : (s.op == 5) = false := ne_beq h5
      by_cases h3 : s.op = 3
      · have q3 : (s.op == 3) = true := by rw [beq_iff_eq]; exact h3
        clear h3 h5
        go_wp2_with fail
        with_reducible refine (KB.out _ BW.out).mono ?_
        rintro e w4 ⟨rfl, b4⟩
        have B4 := Lib.hid (bthen5 BW.out b4 BW.out.size)
        have x4 := cell_below z4 b4
        clear b4 z0 z1 z2 z3 z4 z5 KB
        cases e1 with
        | true =>
          have HE2 : Hid (el = e2) := by show _ = _; rw [HE.out, q5, q3]; simp
          clear HE
          go_wp2_with fail
          with_reducible refine (KF.out _ B4.out).mono ?_
          rintro e w5 ⟨rfl, b5⟩
          have B5 := Lib.hid (bthen5 B4.out b5 B4.out.size)
          clear b5 x4 KF
          go_wp2
          go_ret
          exact ⟨by rw [HE2.out]; rfl, B5.out⟩
        | false =>
          have HE2 : Hid (el = false) := by show _ = _; rw [HE.out, q5, q3]; simp
          clear HE
          go_wp2
          go_ret
          exact ⟨by rw [HE2.out]; rfl, B4.out⟩
      · have q3 : (s.op == 3) = false := ne_beq h3
        have HE2 : Hid (el = false) := by show _ = _; rw [HE.out, q5, q3]; simp
        clear h3 h5 HE
        go_wp2
        go_ret
        exact ⟨by rw [HE2.out]; rfl, BW.out⟩
theorem endAll : ∀ (n : Nat) (l : List Xs), SizeOf.sizeOf l ≤ n → EndC l
  | 0, l, h => by cases l <;> simp at h
  | n + 1, l, h => by
    refine endsC l fun s hs => ?_
    have h1 := List.sizeOf_lt_of_mem hs
    obtain ⟨op, text, exprs, body, els, place⟩ := s
    simp at h1
    exact ⟨endAll n _ (by show SizeOf.sizeOf body ≤ n; omega), endAll n _ (by show SizeOf.sizeOf els ≤ n; omega)⟩
theorem endT (l : List Xs) : EndC l := endAll _ l (Nat.le_refl _)
end
end Go.Proofs.YtfcpabhkconjmaaGreatDoor
