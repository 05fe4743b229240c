/- The walk of CodeTells: it returns true, and nothing that was there has changed. Conditions: none beyond what its arguments are; the table of signs lies as the program lays it. -/
import Derived.Test.YtecjkmemihmkcaaDoorYj
import Derived.Test.YtecjkmemihmkcaaDoorYc
import Derived.Test.YtecjkmemihmkcaaDoorWb
namespace Go.Proofs.YtecjkmemihmkcaaDoor
set_option maxRecDepth 100000
open Go.RowKit
set_option linter.unusedSimpArgs false
set_option linter.unusedVariables false

/-- what Put tells, in both cases -/
def pl (m : Md) : List Int := if okMd m = true then mdB m else []
def pe (m : Md) : Int := if okMd m = true then 0 else 111
theorem put_any {m : Md} {w w' : World} {e : Ending} (h : PutGot (okMd m) (mdB m) w e w') : Below w.heap.size w w' ∧ ∃ A c, e = .returned (.tuple #[.slice A (pl m).length c, .int .i64 (pe m)]) ∧ (pl m).length ≤ c ∧ c ≤ maxLen ∧ Lies w' w'.heap.size A c (cellsOf (pl m)) := by
  obtain ⟨hb, ⟨hok, A, c, rfl, h1, h2, h3, _⟩ | ⟨hno, rfl⟩⟩ := h
  · unfold pl pe
    rw [if_pos hok, if_pos hok]
    exact ⟨hb, A, c, rfl, h1, h2, h3⟩
  · unfold pl pe
    rw [if_neg (by rw [hno]; decide), if_neg (by rw [hno]; decide)]
    exact ⟨hb, none, 0, rfl, Nat.le_refl _, Nat.zero_le _, Lies.nothing _ _⟩
/-- what Get tells, in both cases -/
def gm (l : List Int) : Md := match getR l with | .ok m _ => m | .bad _ => ⟨[], []⟩
def ge (l : List Int) : Int := match getR l with | .ok _ _ => 0 | .bad e => e
theorem get_any {l : List Int} {w w' : World} {e : Ending} (h : GetGot l w e w') : Below w.heap.size w w' ∧ ∃ A c A' c', e = .returned (.tuple #[.agg #[.slice A (gm l).codes.length c, .slice A' (gm l).texts.length c'], .int .i64 (ge l)]) ∧
    (gm l).codes.length ≤ c ∧ c ≤ maxLen ∧ (gm l).texts.length ≤ c' ∧ c' ≤ maxLen ∧ ModV w' w'.heap.size (gm l) (.agg #[.slice A (gm l).codes.length c, .slice A' (gm l).texts.length c']) ∧ ∀ c ∈ (gm l).codes, Byt c.name := by
  obtain ⟨hb, ⟨m, q, V, hm, rfl, hV, hN⟩ | ⟨E, hE, hne, rfl⟩⟩ := h
  · have e1 : gm l = m := by unfold gm; rw [hm]
    have e2 : ge l = 0 := by unfold ge; rw [hm]
    rw [e1, e2]
    have hV0 := hV
    obtain ⟨C, T, rfl, ⟨A, c, vs, rfl, k1, k2, _⟩, ⟨A', c', rfl, k3, k4, _⟩⟩ := hV
    exact ⟨hb, A, c, A', c', rfl, k1, k2, k3, k4, hV0, hN⟩
  · have e1 : gm l = ⟨[], []⟩ := by unfold gm; rw [hE]
    have e2 : ge l = E := by unfold ge; rw [hE]
    rw [e1, e2]
    exact ⟨hb, none, 0, none, 0, rfl, Nat.le_refl _, Nat.zero_le _, Nat.le_refl _, Nat.zero_le _, ⟨_, _, rfl, ⟨none, 0, [], rfl, Nat.le_refl _, Nat.zero_le _, Lies.nothing _ _, .nil⟩, GridV.nothing _ _⟩, fun c hc => by cases hc⟩
theorem gm_texts {l : List Int} (hb : Byt l) : ∀ s ∈ (gm l).texts, Byt s := by
  unfold gm
  cases h : getR l with
  | bad e => intro s hs; cases hs
  | ok m q =>
    intro s hs
    unfold getR at h
    obtain ⟨m1, p1, h1, h⟩ := Rd.bind_is h
    split at h
    · injection h with h _
      subst h
      unfold partsR at h1
      obtain ⟨cs, p2, _, h1⟩ := Rd.bind_is h1
      obtain ⟨ts, p3, h2, h1⟩ := Rd.bind_is h1
      injection h1 with h1 _
      subst h1
      unfold rowR at h2
      split at h2
      · injection h2 with h2 _
        subst h2
        obtain ⟨j, _, rfl⟩ := List.mem_map.1 hs
        exact fun y hy => hb y (List.mem_of_mem_drop (List.mem_of_mem_take hy))
      · cases h2
    · cases h

set_option maxHeartbeats 3200000 in
theorem tells_walk (m : Md) (V : Value) (A : Option Addr) (c : Nat) (lb : List Int) (n : Int) (s : List Int) (w : World) (h : ModV w w.heap.size m V) (hf : MdFit m) (hc : lb.length ≤ c) (hcm : c ≤ maxLen) (hby : Byt lb) (hl : Lies w w.heap.size A c (cellsOf lb))
    (hn1 : -9223372036854775808 ≤ n) (hn2 : n ≤ 9223372036854775807) (hs : Byt s) (ht : Tab w) : Calls Tryd.prog 3 #[V, .slice A lb.length c, .int .i64 n, .string (strOfNums s)] w (Says true w) := by
  have HM := Lib.hid h
  have HF := Lib.hid hf
  have HT := Lib.hid ht
  have HLB := Lib.hid hl
  have HBY := Lib.hid hby
  have HSB := Lib.hid hs
  have HN1 := Lib.hid hn1
  have HN2 := Lib.hid hn2
  have HCM := Lib.hid hcm
  have h0 := ht.1
  obtain ⟨C, T, rfl, hC, hT⟩ := h
  obtain ⟨AC, cC, vs, rfl, p1, p2, p3, p4⟩ := hC
  obtain ⟨AT, cT, rfl, q1, q2, q3⟩ := hT
  clear p3 p4 q3 hf ht hl hby hs
  unfold maxLen at p2 q2 hcm
  have X0 := Lib.hid (Bx.start w (.slice AC m.codes.length cC) (.slice AT m.texts.length cT))
  have K := Lib.hid (head_true _ (HT.out.below X0.out.low h0))
  go_enter Tryd.func3, Tryd.ntmps3
  go_wp2_with fail
  refine K.out.mono ?_
  clear K
  rintro e w1 ⟨rfl, hb1⟩
  have X1 := Lib.hid (X0.out.on hb1)
  obtain ⟨c0, c1⟩ := X1.out.cells
  have K := Lib.hid (great m _ w1 (X1.out.mod HM.out))
  clear hb1
  go_wp2_with fail
  refine K.out.mono ?_
  clear K c0 c1
  rintro e w2 ⟨b, rfl, hb2⟩
  have X2 := Lib.hid (X1.out.on hb2)
  clear hb2
  cases b with
  | true =>
    go_wp2
    go_ret
    exact ⟨rfl, X2.out.low⟩
  | false =>
    obtain ⟨c0, c1⟩ := X2.out.cells
    have K := Lib.hid (put m _ w2 (X2.out.mod HM.out) (fun c hc => (HF.out.codes c hc).name))
    go_wp2_with fail
    refine K.out.mono ?_
    clear K c0 c1
    intro e w3 hp
    obtain ⟨hb3, A3, c3, rfl, i1, i2, i3⟩ := put_any hp
    have X3 := Lib.hid (X2.out.on hb3)
    have L3 := Lib.hid i3
    obtain ⟨c0, c1⟩ := X3.out.cells
    have K := Lib.hid (refPut m _ w3 (X3.out.mod HM.out) (fun c hc => (HF.out.codes c hc).name))
    clear hp hb3 i3
    unfold maxLen at i2
    go_wp2_with fail
    refine K.out.mono ?_
    clear K c0 c1
    intro e w4 hp
    obtain ⟨hb4, A4, c4, rfl, j1, j2, j3⟩ := put_any hp
    have X4 := Lib.hid (X3.out.on hb4)
    have L4 := Lib.hid j3
    have L34 := Lib.hid ((L3.out.below hb4).more hb4.size)
    have K := Lib.hid (get A lb c w4 hc HCM.out ((HLB.out.below X4.out.low).more X4.out.low.size) HBY.out)
    clear hp hb4 j3
    unfold maxLen at j2
    generalize pl m = P at *
    generalize pe m = pE at *
    go_wp2_with fail
    refine K.out.mono ?_
    clear K
    intro e w5 hp
    obtain ⟨hb5, AB, cB, AB', cB', rfl, k1, k2, k3, k4, kV, kN⟩ := get_any hp
    have X5 := Lib.hid (X4.out.on hb5)
    have L5 := Lib.hid ((L34.out.below hb5).more hb5.size)
    have M5 := Lib.hid ((L4.out.below hb5).more hb5.size)
    have V5 := Lib.hid kV
    have GN := Lib.hid kN
    have GT := Lib.hid (gm_texts HBY.out)
    clear hp hb5 kV kN
    unfold maxLen at k2 k4
    have hb6 := (Below.refl w5.heap.size w5).alloc (Nat.le_refl _) (.cells #[.slice AB (gm lb).codes.length cB, .slice AB' (gm lb).texts.length cB'] 25)
    have X6 := Lib.hid (X5.out.on hb6)
    have L6 := Lib.hid ((L5.out.below hb6).more hb6.size)
    have M6 := Lib.hid ((M5.out.below hb6).more hb6.size)
    have V6 := Lib.hid ((V5.out.below hb6).more hb6.size)
    have Q6 : Hid ((w5.alloc (.cells #[.slice AB (gm lb).codes.length cB, .slice AB' (gm lb).texts.length cB'] 25)).heap[w5.heap.size]? = some (.cells #[.slice AB (gm lb).codes.length cB, .slice AB' (gm lb).texts.length cB'] 25 (0, 0))) := Lib.hid (heap_alloc_new w5 _)
    have K := Lib.hid (refGet A lb c _ hc HCM.out ((HLB.out.below X6.out.low).more X6.out.low.size) HBY.out)
    clear hb6
    go_wp2_with fail
    refine K.out.mono ?_
    clear K X0 X1 X2 X3 X4 X5 L3 L4 L34 L5 M5 V5
    generalize w5.alloc (.cells #[.slice AB (gm lb).codes.length cB, .slice AB' (gm lb).texts.length cB'] 25) = w6 at *
    generalize w5.heap.size = b1 at *
    intro e w7 hp
    obtain ⟨hb7, AD, cD, AD', cD', rfl, l1, l2, l3, l4, lV, _⟩ := get_any hp
    have X7 := Lib.hid (X6.out.on hb7)
    have L7 := Lib.hid ((L6.out.below hb7).more hb7.size)
    have M7 := Lib.hid ((M6.out.below hb7).more hb7.size)
    have V7 := Lib.hid ((V6.out.below hb7).more hb7.size)
    have Q7 : Hid (w7.heap[b1]? = some (.cells #[.slice AB (gm lb).codes.length cB, .slice AB' (gm lb).texts.length cB'] 25 (0, 0))) := Lib.hid (by rw [hb7.block _ (lt_of_some Q6.out)]; exact Q6.out)
    have U7 := Lib.hid lV
    clear hp hb7 lV X6 L6 M6 V6 Q6
    unfold maxLen at l2 l4
    have hb8 := (Below.refl w7.heap.size w7).alloc (Nat.le_refl _) (.cells #[.slice AD (gm lb).codes.length cD, .slice AD' (gm lb).texts.length cD'] 25)
    have X8 := Lib.hid (X7.out.on hb8)
    have L8 := Lib.hid ((L7.out.below hb8).more hb8.size)
    have M8 := Lib.hid ((M7.out.below hb8).more hb8.size)
    have V8 := Lib.hid ((V7.out.below hb8).more hb8.size)
    have U8 := Lib.hid ((U7.out.below hb8).more hb8.size)
    have Q8 : Hid ((w7.alloc (.cells #[.slice AD (gm lb).codes.length cD, .slice AD' (gm lb).texts.length cD'] 25)).heap[b1]? = some (.cells #[.slice AB (gm lb).codes.length cB, .slice AB' (gm lb).texts.length cB'] 25 (0, 0))) := Lib.hid (by rw [hb8.block _ (lt_of_some Q7.out)]; exact Q7.out)
    have R8 : Hid ((w7.alloc (.cells #[.slice AD (gm lb).codes.length cD, .slice AD' (gm lb).texts.length cD'] 25)).heap[w7.heap.size]? = some (.cells #[.slice AD (gm lb).codes.length cD, .slice AD' (gm lb).texts.length cD'] 25 (0, 0))) := Lib.hid (heap_alloc_new w7 _)
    clear hb8
    go_upto_region 8 with fail
    clear X7 L7 M7 V7 Q7 U7
    generalize w7.alloc (.cells #[.slice AD (gm lb).codes.length cD, .slice AD' (gm lb).texts.length cD'] 25) = w8 at *
    generalize w7.heap.size = b2 at *
    have B0 : Hid (Below w8.heap.size w8 w8.drew) := (Below.refl _ _).drew
    have SA : Hid (∀ x, Below w8.heap.size w8 x → (x.cell? ⟨b1, 0, none⟩ = some (.slice AB (gm lb).codes.length cB) ∧ x.cell? ⟨b1, 1, none⟩ = some (.slice AB' (gm lb).texts.length cB') ∧ x.cell? ⟨b2, 0, none⟩ = some (.slice AD (gm lb).codes.length cD) ∧ x.cell? ⟨b2, 1, none⟩ = some (.slice AD' (gm lb).texts.length cD') ∧ x.cell? ⟨w.heap.size, 0, none⟩ = some (.slice AC m.codes.length cC) ∧ x.cell? ⟨w.heap.size, 1, none⟩ = some (.slice AT m.texts.length cT)) ∧ ((convert 26 9 (.slice A3 P.length c3)).run Tryd.prog x = .ok (.string (strOfNums P)) x ∧ (convert 26 9 (.slice A4 P.length c4)).run Tryd.prog x = .ok (.string (strOfNums P)) x)) := fun x hx => by
      have q : x.heap[b1]? = some (.cells #[.slice AB (gm lb).codes.length cB, .slice AB' (gm lb).texts.length cB'] 25 (0, 0)) := by rw [hx.block _ (lt_of_some Q8.out)]; exact Q8.out
      have r : x.heap[b2]? = some (.cells #[.slice AD (gm lb).codes.length cD, .slice AD' (gm lb).texts.length cD'] 25 (0, 0)) := by rw [hx.block _ (lt_of_some R8.out)]; exact R8.out
      have X := (X8.out.on hx).cells
      exact ⟨⟨by rw [cell_of_row _ _ _ _ _ _ q]; rfl, by rw [cell_of_row _ _ _ _ _ _ q]; rfl, by rw [cell_of_row _ _ _ _ _ _ r]; rfl, by rw [cell_of_row _ _ _ _ _ _ r]; rfl, X.1, X.2⟩,
        run_string_lies (P := Tryd.prog) x 26 9 5 Tryd.underlying26 Tryd.underlying5 Tryd.underlying9 w8.heap.size A3 P.length c3 P rfl (L8.out.below hx), run_string_lies (P := Tryd.prog) x 26 9 5 Tryd.underlying26 Tryd.underlying5 Tryd.underlying9 w8.heap.size A4 P.length c4 P rfl (M8.out.below hx)⟩
    have K16 : Hid (∀ x, Below w8.heap.size w8 x → Calls Tryd.prog 16 #[.agg #[.slice AB (gm lb).codes.length cB, .slice AB' (gm lb).texts.length cB'], .agg #[.slice AD (gm lb).codes.length cD, .slice AD' (gm lb).texts.length cD']] x (Says true x)) := fun x hx => sameMods (gm lb) (gm lb) _ _ x ((V8.out.below hx).more hx.size) ((U8.out.below hx).more hx.size) GN.out GN.out GT.out GT.out true (by simp)
    have K17 : Hid (∀ x, Below w8.heap.size w8 x → Calls Tryd.prog 17 #[.agg #[.slice AC m.codes.length cC, .slice AT m.texts.length cT]] x (Says (okMd m) x)) := fun x hx => right m _ x ((X8.out.on hx).mod HM.out)
    have K18 : Hid (∀ x, Below w8.heap.size w8 x → Calls Tryd.prog 18 #[.agg #[.slice AC m.codes.length cC, .slice AT m.texts.length cT]] x (Says (okMd m) x)) := fun x hx => refRight m _ x ((X8.out.on hx).mod HM.out)
    have K19 : Hid (∀ x, Below w8.heap.size w8 x → Calls Tryd.prog 19 #[.int .i64 n] x fun e w' => e = .returned (.string (strOfNums (signM n))) ∧ x = w') := fun x hx => sign n x HN1.out HN2.out (HT.out.below (X8.out.on hx).low h0)
    have K20 : Hid (∀ x, Below w8.heap.size w8 x → Calls Tryd.prog 20 #[.int .i64 n] x fun e w' => e = .returned (.string (strOfNums (signM n))) ∧ Below x.heap.size x w') := fun x hx => refSign n x HN1.out HN2.out
    have K21 : Hid (∀ x, Below w8.heap.size w8 x → Calls Tryd.prog 21 #[.string (strOfNums s)] x fun e w' => e = .returned (.int .i64 (numberM s)) ∧ x = w') := fun x hx => number s x HSB.out (HT.out.below (X8.out.on hx).low h0)
    have K22 : Hid (∀ x, Below w8.heap.size w8 x → Calls Tryd.prog 22 #[.string (strOfNums s)] x fun e w' => e = .returned (.int .i64 (numberM s)) ∧ Below x.heap.size x w') := fun x hx => refNumber s x HSB.out
    clear L8 M8 V8 U8 Q8 R8 HLB
    generalize P.length = pn at *
    generalize strOfNums P = ps at *
    generalize (gm lb).codes.length = gn at *
    generalize (gm lb).texts.length = gt at *
    generalize strOfNums (signM n) = sg at *
    generalize strOfNums s = ss at *
    generalize numberM s = nm at *
    generalize okMd m = ok at *
    generalize ge lb = gE at *
    go_region_held3 (fun x => (x.cell? ⟨b1, 0, none⟩ = some (.slice AB gn cB) ∧ x.cell? ⟨b1, 1, none⟩ = some (.slice AB' gt cB') ∧ x.cell? ⟨b2, 0, none⟩ = some (.slice AD gn cD) ∧ x.cell? ⟨b2, 1, none⟩ = some (.slice AD' gt cD') ∧ x.cell? ⟨w.heap.size, 0, none⟩ = some (.slice AC m.codes.length cC) ∧ x.cell? ⟨w.heap.size, 1, none⟩ = some (.slice AT m.texts.length cT)) ∧ ((convert 26 9 (.slice A3 pn c3)).run Tryd.prog x = .ok (.string (ps)) x ∧ (convert 26 9 (.slice A4 pn c4)).run Tryd.prog x = .ok (.string (ps)) x))
      (first | with_reducible exact SA.out _ B0.out | with_reducible exact SA.out _ Ba.out | with_reducible exact SA.out _ Bb.out | with_reducible exact SA.out _ Bc.out | with_reducible exact SA.out _ Bd.out | with_reducible exact SA.out _ Be.out)
      (first
        | (go_at_call 16; refine (K16.out _ B0.out).mono ?_; rintro e wa ⟨rfl, hb⟩; have Ba := Lib.hid (B0.out.trans (hb.mono B0.out.size)); clear hb)
        | (go_at_call 17; refine (K17.out _ Ba.out).mono ?_; rintro e wb ⟨rfl, hb⟩; have Bb := Lib.hid (Ba.out.trans (hb.mono Ba.out.size)); clear hb)
        | (go_at_call 18; refine (K18.out _ Bb.out).mono ?_; rintro e wc ⟨rfl, hb⟩; have Bc := Lib.hid (Bb.out.trans (hb.mono Bb.out.size)); clear hb)
        | (go_at_call 19; refine (K19.out _ Bc.out).mono ?_; rintro e wx ⟨rfl, rfl⟩)
        | (go_at_call 20; refine (K20.out _ Bc.out).mono ?_; rintro e wd ⟨rfl, hb⟩; have Bd := Lib.hid (Bc.out.trans (hb.mono Bc.out.size)); clear hb)
        | (go_at_call 21; refine (K21.out _ Bd.out).mono ?_; rintro e wx ⟨rfl, rfl⟩)
        | (go_at_call 22; refine (K22.out _ Bd.out).mono ?_; rintro e we ⟨rfl, hb⟩; have Be := Lib.hid (Bd.out.trans (hb.mono Bd.out.size)); clear hb))
    go_wp2
    go_ret
    exact ⟨rfl, (X8.out.on Be.out).low⟩

end Go.Proofs.YtecjkmemihmkcaaDoor
