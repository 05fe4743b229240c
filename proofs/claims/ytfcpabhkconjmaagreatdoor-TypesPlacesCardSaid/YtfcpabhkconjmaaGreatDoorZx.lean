/- TypesPlaces: its walk, for any program. Conditions: the program lies in memory, and its rows are no longer than memory bears; the tables lie as the program lays them. -/
import Derived.Test.YtfcpabhkconjmaaGreatDoorZw
import Derived.Test.YtfcpabhkconjmaaGreatDoorMF
namespace Go.Proofs.YtfcpabhkconjmaaGreatDoor
open Go.RowKit
set_option maxRecDepth 100000
set_option linter.unusedSimpArgs false
set_option linter.unusedVariables false

/-- where a function's parts lie: not in the variable, and not in the row itself -/
def Dq (qb : Nat) (V : Value) (w : World) : Nat → Prop := fun q => (q ≠ qb ∧ some q ≠ V.ownBlock) ∧ q < w.heap.size
theorem Dq.grow {qb : Nat} {V V' : Value} {w w' : World} {b : Nat} (h : Dq qb V w b) (hz : w.heap.size ≤ w'.heap.size) (hv : V'.ownBlock = V.ownBlock ∨ ∃ g, V'.ownBlock = some g ∧ w.heap.size ≤ g) : Dq qb V' w' b := by
  refine ⟨⟨h.1.1, ?_⟩, Nat.lt_of_lt_of_le h.2 hz⟩
  rcases hv with e | ⟨g, e, hg⟩
  · rw [e]; exact h.1.2
  · rw [e]
    intro e2
    injection e2 with e2
    have := h.2
    omega
theorem XfK.morez {w : World} {D D' : Nat → Prop} {f : Xf} {k : Two} (h : XfK w D f k) (hm : ∀ q, D q → D' q) : XfK w D' f k := ⟨h.name, h.params.more hm, h.names, h.body.morez hm⟩
def OwF (qb : Nat) (w : World) (l : List Xf) (V : Value) : Prop :=
  ∃ ks : List Two, ks.length = l.length ∧ w.ownsRow (qb + 1) 36 5 V l.length (xfsC l ks) ∧ ∀ (i : Nat) (f : Xf) (k : Two), l[i]? = some f → ks[i]? = some k → XfK w (Dq qb V w) f k
theorem OwF.start (qb : Nat) (w : World) : OwF qb w [] (.slice none 0 0) := ⟨[], rfl, ⟨rfl, .inl ⟨rfl, rfl⟩⟩, fun i e k h => by simp at h⟩
theorem OwF.keep {qb : Nat} {w w' : World} {l : List Xf} {V : Value} (h : OwF qb w l V) (hs : ∀ b, b ≠ qb → b < w.heap.size → w'.heap[b]? = w.heap[b]?) (hz : w.heap.size ≤ w'.heap.size) : OwF qb w' l V := by
  obtain ⟨ks, h1, h2, h3⟩ := h
  exact ⟨ks, h1, own_keep h2 fun b hb => hs b (by have := (h2.lt b hb).1; omega) (h2.lt b hb).2, fun i f k a b => ((h3 i f k a b).same fun q hq => hs q hq.1.1 hq.2).morez fun q hq => hq.grow hz (.inl rfl)⟩
theorem OwF.below {qb : Nat} {w w' : World} {l : List Xf} {V : Value} (h : OwF qb w l V) (hb : Below w.heap.size w w') : OwF qb w' l V := h.keep (fun b _ hb' => hb.block b hb') hb.size
theorem OwF.fns {qb : Nat} {w : World} {l : List Xf} {V : Value} (h : OwF qb w l V) : ∃ ks, XfsC w (Lo w.heap.size) l ks V := by
  obtain ⟨ks, h1, h2, h3⟩ := h
  exact ⟨ks, h1, (RowF.own h2).more fun q hq => hq.2, fun i f k a b => (h3 i f k a b).morez fun q hq => hq.2⟩
theorem xfsC_snocz (l : List Xf) (ks : List Two) (hk : ks.length = l.length) (f : Xf) (k : Two) : xfsC (l ++ [f]) (ks ++ [k]) = xfsC l ks ++ xfC f k.p k.b := by
  unfold xfsC
  rw [List.zipWith_append hk.symm]
  simp
theorem OwF.push {qb : Nat} {w w' : World} {l : List Xf} {V V' : Value} {ks : List Two} {f : Xf} {k : Two} {news : List Value} {n : Nat} (hk : ks.length = l.length) (ho : w.ownsRow (qb + 1) 36 5 V l.length (xfsC l ks)) (h4 : ∀ (i : Nat) (f : Xf) (k : Two), l[i]? = some f → ks[i]? = some k → XfK w (Dq qb V w) f k)
    (hn : n = l.length + 1) (ho' : w'.ownsRow (qb + 1) 36 5 V' n (xfsC l ks ++ news)) (hnews : news = xfC f k.p k.b) (hg : w.grownBy w' V.ownBlock) (hv : V'.ownBlock = V.ownBlock ∨ ∃ g, V'.ownBlock = some g ∧ w.heap.size ≤ g) (hf : XfK w (Dq qb V w) f k) : OwF qb w' (l ++ [f]) V' := by
  subst hn hnews
  have hS : Same (Dq qb V w) w w' := fun q hq => hg.block q hq.2 hq.1.2
  have hm : ∀ q, Dq qb V w q → Dq qb V' w' q := fun q hq => hq.grow hg.size hv
  refine ⟨ks ++ [k], by simp [hk], by rw [xfsC_snocz l ks hk, List.length_append]; exact ho', ?_⟩
  intro i x q hx hq
  rcases snoc_getz hx with hx | ⟨e1, rfl⟩ <;> rcases snoc_getz hq with hq | ⟨e2, rfl⟩
  · exact ((h4 i x q hx hq).same hS).morez hm
  · have := (List.getElem?_eq_some_iff.1 hx).1
    omega
  · have := (List.getElem?_eq_some_iff.1 hq).1
    omega
  · exact (hf.same hS).morez hm

def noFs (l : List Xf) : List Xf := l.map noF
set_option maxHeartbeats 1600000 in
theorem places_walk (fs : List Xf) (ks : List Two) (A : Option Addr) (c : Nat) (w : World) (ht : Tab w) (hX : XfsC w (Lo w.heap.size) fs ks (.slice A fs.length c)) (hl : fs.length * 80 ≤ reachBytes) (hs : ∀ f ∈ fs, f.body.length * 104 ≤ reachBytes ∧ smSs reachBytes f.body) :
    Calls Tryz.prog 5 #[.agg #[.slice A fs.length c]] w fun e w' => e = .returned (.bool true) ∧ Below w.heap.size w w' := by
  have hmx := hX.2.1.len5
  obtain ⟨i0, hi, hz0, hz1, hz2⟩ := info_parts info47
  have hreach : reachBytes = 140737488351232 := rfl
  rw [hreach] at hl
  have HX := Lib.hid hX
  have HS := Lib.hid hs
  have hb0 := below_alloc w (.cells #[.slice A fs.length c] 26)
  have HB0 := Lib.hid hb0
  have HVP : Hid (VarAt (w.alloc (.cells #[.slice A fs.length c] 26)) w.heap.size [.slice A fs.length c]) := VarAt.block (cs := [_]) (heap_alloc_new w _)
  have HH := Lib.hid (head5_true _ (ht.below hb0 ht.1))
  clear hX hs hb0 hreach ht
  go_enter Tryz.func5, Tryz.ntmps5
  go_upto_region 1 with fail
  generalize w.alloc (.cells #[.slice A fs.length c] 26) = w1 at *
  go_wp2_with fail
  with_reducible refine HH.out.mono ?_
  rintro e w2 ⟨rfl, b2⟩
  have HB2 := Lib.hid (HB0.out.trans (b2.mono HB0.out.size))
  have HVP2 := Lib.hid (HVP.out.of (b2.block _ (HVP.out.lt (by simp))))
  have KG := greatW fs ks A c w2 (XfsC.more (HX.out.same (same_below HB2.out (Nat.le_refl _))) fun q hq => Nat.lt_of_lt_of_le hq HB2.out.size)
  have HKG := Lib.hid KG
  have x0 := (HVP2.out.cell 0 _ rfl).1
  clear b2 KG HH HVP HB0
  go_wp2_with fail
  with_reducible refine HKG.out.mono ?_
  rintro e w3 ⟨gr, rfl, b3⟩
  have HB3 := Lib.hid (bthen5 HB2.out b3 HB2.out.size)
  have HVP3 := Lib.hid (HVP2.out.of (b3.block _ (HVP2.out.lt (by simp))))
  clear b3 x0 HKG HVP2 HB2
  cases gr with
  | true =>
    go_wp2
    go_ret
    exact ⟨rfl, HB3.out⟩
  | false =>
    go_upto_region 5 with fail
    have HVQ : Hid (VarAt (w3.alloc (.cells #[.slice none 0 0] 26)) w3.heap.size [.slice none 0 0]) := VarAt.block (cs := [_]) (heap_alloc_new w3 _)
    have HB4 : Hid (Below w3.heap.size w3 (w3.alloc (.cells #[.slice none 0 0] 26))) := below_alloc w3 _
    generalize w3.alloc (.cells #[.slice none 0 0] 26) = w4 at *
    go_wp2
    go_loopw [5, 6] (fun i _ wr => ∃ (k : Nat) (V : Value), k ≤ fs.length ∧ i = .int .i64 k ∧ Hid (Below w3.heap.size w3 wr ∧ VarAt wr w3.heap.size [V] ∧ OwF w3.heap.size wr (noFs (fs.take k)) V)) (fun i _ _ => fs.length - (intOf i).toNat)
    case atStart => exact ⟨0, .slice none 0 0, Nat.zero_le _, rfl, HB4.out, HVQ.out, OwF.start _ _⟩
    case round =>
      obtain ⟨k, V, hk, rfl, HR⟩ := hrel
      have hbw : Below w.heap.size w wr := bthen5 HB3.out HR.out.1 HB3.out.size
      have x0 := cell_below (HVP3.out.cell 0 _ rfl).1 HR.out.1
      obtain ⟨A0, c0, hv0⟩ : ∃ A0 c0, V = .slice A0 (noFs (fs.take k)).length c0 := by
        obtain ⟨os, o1, o2, o3⟩ := HR.out.2.2
        exact own_shape o2
      subst hv0
      have HLs : Hid ((noFs (fs.take k)).length = k) := by show _ = _; unfold noFs; rw [List.length_map, List.length_take]; omega
      by_cases hlt : k < fs.length
      · obtain ⟨f, he⟩ : ∃ f, fs[k]? = some f := ⟨_, List.getElem?_eq_getElem hlt⟩
        have hsm := HS.out f (List.mem_of_getElem? he)
        obtain ⟨b, o, c', q, hV, _, _, hrg, hK⟩ := funCellsX (HX.out.same (same_below hbw (Nat.le_refl _))) he
        injection hV with hV1 _ hV3
        subst hV1 hV3
        obtain ⟨A1, c1, e1⟩ := hK.params.slice5
        obtain ⟨A2, c2, e2⟩ := xssC_slice hK.body
        obtain ⟨qp, qb⟩ := q
        simp only at e1 e2
        subst e1 e2
        have HRG : Hid (wr.rangeAt b (o + k * 5) [.string (strN f.name), .slice A1 f.params.length c1, .int .i64 f.result, .slice A2 f.body.length c2, .int .i64 f.place]) := hrg
        have HTk : Hid (noFs (fs.take (k + 1)) = noFs (fs.take k) ++ [noF f]) := by
          show _ = _
          unfold noFs
          rw [List.take_add_one, he]
          simp
        have HSm := Lib.hid hsm
        have HK := Lib.hid hK
        clear hrg hK hsm he
        go_wp2_with (first | (refine wpList_load_mid rfl 36 (.tmp 25) rfl b (o + k * 5) rfl [.string (strN f.name), .slice A1 f.params.length c1, .int .i64 f.result, .slice A2 f.body.length c2, .int .i64 f.place] _ HRG.out Tryz.underlying36 rfl info47s ?_; refine Hid.out ?_) | fail)
        refine Lib.hid ?_
        go_upto_region 10 with fail
        have HVF : Hid (VarAt (wr.alloc (.cells #[.string (strN f.name), .slice A1 f.params.length c1, .int .i64 f.result, .slice A2 f.body.length c2, .int .i64 0] 36)) wr.heap.size [.string (strN f.name), .slice A1 f.params.length c1, .int .i64 f.result, .slice A2 f.body.length c2, .int .i64 0]) := VarAt.block (cs := [_, _, _, _, _]) (heap_alloc_new wr _)
        have HBf : Hid (Below wr.heap.size wr (wr.alloc (.cells #[.string (strN f.name), .slice A1 f.params.length c1, .int .i64 f.result, .slice A2 f.body.length c2, .int .i64 0] 36))) := below_alloc wr _
        have HZf : Hid ((wr.alloc (.cells #[.string (strN f.name), .slice A1 f.params.length c1, .int .i64 f.result, .slice A2 f.body.length c2, .int .i64 0] 36)).heap.size = wr.heap.size + 1) := by show _ = _; simp
        generalize wr.alloc (.cells #[.string (strN f.name), .slice A1 f.params.length c1, .int .i64 f.result, .slice A2 f.body.length c2, .int .i64 0] 36) = wf at *
        have KB := stillsC _ f.body (.slice A2 f.body.length c2) wf (Nat.lt_succ_self _) HSm.out.1 HSm.out.2 ((HK.out.body.same (same_below HBf.out hbw.size)).morez fun q hq => Nat.lt_of_lt_of_le hq (Nat.le_trans hbw.size HBf.out.size))
        have HKB := Lib.hid KB
        have x3 := (HVF.out.cell 3 _ rfl).1
        clear KB
        go_wp2_with fail
        with_reducible refine HKB.out.mono ?_
        rintro E wg ⟨Vb, rfl, hVb, bg⟩
        obtain ⟨B2, d2, hd2⟩ := xssC_slice hVb
        subst hd2
        have HVg := Lib.hid (HVF.out.of (bg.block wr.heap.size (HVF.out.lt (by simp))))
        have HBg := Lib.hid (HBf.out.trans (bg.mono HBf.out.size))
        have HYg : Hid (XssC wg (Rng (wr.heap.size + 1) wg.heap.size) (noSs f.body) (.slice B2 (noSs f.body).length d2)) := hVb.morez fun q hq => ⟨by have := hq.1; have := HZf.out; omega, hq.2⟩
        obtain ⟨hce, hcf⟩ := HVg.out.cell 3 _ rfl
        clear hVb bg x3 HKB HVF HBf HZf
        go_upto_region 11 with fail
        have HVh : Hid (VarAt (wg.setCell ⟨wr.heap.size, 3, none⟩ (.slice B2 (noSs f.body).length d2)) wr.heap.size [.string (strN f.name), .slice A1 f.params.length c1, .int .i64 f.result, .slice B2 (noSs f.body).length d2, .int .i64 0]) := HVg.out.set 3 _
        have HBh : Hid (Below wr.heap.size wr (wg.setCell ⟨wr.heap.size, 3, none⟩ (.slice B2 (noSs f.body).length d2))) := HBg.out.trans set_below
        have HYh : Hid (XssC (wg.setCell ⟨wr.heap.size, 3, none⟩ (.slice B2 (noSs f.body).length d2)) (Rng (wr.heap.size + 1) (wg.setCell ⟨wr.heap.size, 3, none⟩ (.slice B2 (noSs f.body).length d2)).heap.size) (noSs f.body) (.slice B2 (noSs f.body).length d2)) := (HYg.out.same fun q hq => set_other q (by have := hq.1; omega)).morez fun q hq => ⟨hq.1, by rw [set_size]; exact hq.2⟩
        clear hce hcf HVg HBg HYg
        generalize wg.setCell ⟨wr.heap.size, 3, none⟩ (.slice B2 (noSs f.body).length d2) = wh at *
        have hqlt : w3.heap.size < wr.heap.size := HR.out.2.1.lt (by simp)
        obtain ⟨z0, _⟩ := HVh.out.cell 0 _ rfl
        obtain ⟨z1, _⟩ := HVh.out.cell 1 _ rfl
        obtain ⟨z2, _⟩ := HVh.out.cell 2 _ rfl
        obtain ⟨z3, _⟩ := HVh.out.cell 3 _ rfl
        obtain ⟨z4, _⟩ := HVh.out.cell 4 _ rfl
        have HVQh := Lib.hid (HR.out.2.1.of (HBh.out.block _ hqlt))
        have y0 := (HVQh.out.cell 0 _ rfl).1
        obtain ⟨os, o1, o2, o3⟩ := (HR.out.2.2.below HBh.out).below (below_alloc wh (.cells #[.string (strN f.name), .slice A1 f.params.length c1, .int .i64 f.result, .slice B2 (noSs f.body).length d2, .int .i64 0] 36))
        have HO1 := Lib.hid o1
        have HO2 := Lib.hid o2
        have HO3 := Lib.hid o3
        have hown0 : ∀ q, some q = Value.ownBlock (.slice A0 (noFs (fs.take k)).length c0) → q < wr.heap.size := fun q e2 => by
          obtain ⟨os', _, o2', _⟩ := HR.out.2.2
          exact (o2'.lt q e2.symm).2
        have hkf : XfK (wh.alloc (.cells #[.string (strN f.name), .slice A1 f.params.length c1, .int .i64 f.result, .slice B2 (noSs f.body).length d2, .int .i64 0] 36)) (Dq w3.heap.size (.slice A0 (noFs (fs.take k)).length c0) (wh.alloc (.cells #[.string (strN f.name), .slice A1 f.params.length c1, .int .i64 f.result, .slice B2 (noSs f.body).length d2, .int .i64 0] 36))) (noF f) ⟨.slice A1 f.params.length c1, .slice B2 (noSs f.body).length d2⟩ := by
          have hp := HK.out.params.same (w' := (wh.alloc (.cells #[.string (strN f.name), .slice A1 f.params.length c1, .int .i64 f.result, .slice B2 (noSs f.body).length d2, .int .i64 0] 36))) fun q hq => (HBh.out.trans ((below_alloc wh _).mono HBh.out.size)).block q (Nat.lt_of_lt_of_le hq hbw.size)
          refine ⟨HK.out.name, hp.more fun q hq => ?_, HK.out.names, (HYh.out.same fun q hq => (below_alloc wh _).block q hq.2).morez fun q hq => ⟨⟨by have := hq.1; omega, fun e2 => by have := hown0 q e2; have := hq.1; omega⟩, Nat.lt_of_lt_of_le hq.2 (by simp)⟩⟩
          refine ⟨⟨by have := HB3.out.size; have : q < w.heap.size := hq; omega, fun e2 => ?_⟩, Nat.lt_of_lt_of_le hq (Nat.le_trans hbw.size (Nat.le_trans HBh.out.size (by simp)))⟩
          obtain ⟨os', _, o2', _⟩ := HR.out.2.2
          have h1 := (o2'.lt q e2.symm).1
          have h2 : q < w.heap.size := hq
          have := HB3.out.size
          omega
        have HKf := Lib.hid hkf
        have HN1 : Hid (∀ (j : Nat) (v : Value), ([.string (strN f.name), .slice A1 f.params.length c1, .int .i64 f.result, .slice B2 (noSs f.body).length d2, .int .i64 0] : List Value)[j]? = some v → (wh.alloc (.cells #[.string (strN f.name), .slice A1 f.params.length c1, .int .i64 f.result, .slice B2 (noSs f.body).length d2, .int .i64 0] 36)).cell? ((Addr.mk wh.heap.size 0 none).add j) = some v) := fun j v hv => by
          rw [Addr.add_mid]
          exact range_of (cs := [.string (strN f.name), .slice A1 f.params.length c1, .int .i64 f.result, .slice B2 (noSs f.body).length d2, .int .i64 0]) (heap_alloc_new wh _) j v hv
        have HBi : Hid (Below wr.heap.size wr (wh.alloc (.cells #[.string (strN f.name), .slice A1 f.params.length c1, .int .i64 f.result, .slice B2 (noSs f.body).length d2, .int .i64 0] 36))) := HBh.out.trans ((below_alloc wh _).mono HBh.out.size)
        have HSz3 : Hid (w3.heap.size + 1 ≤ (wh.alloc (.cells #[.string (strN f.name), .slice A1 f.params.length c1, .int .i64 f.result, .slice B2 (noSs f.body).length d2, .int .i64 0] 36)).heap.size) := Nat.le_trans hqlt HBi.out.size
        clear o1 o2 o3 hkf HYh HVh hown0
        go_wp2_with (at_builtin; refine wpList_append_one _ rfl (.tmp 33) (.tmp 35) 24 rfl (w3.heap.size + 1) 36 i0 _ 5 80 Tryz.underlying24 hi hz0 hz1 hz2 rfl (by omega) _ _ _ rfl HO2.out ⟨wh.heap.size, 0, none⟩ 1 [.string (strN f.name), .slice A1 f.params.length c1, .int .i64 f.result, .slice B2 (noSs f.body).length d2, .int .i64 0] rfl rfl HN1.out one5f (by rw [HLs.out]; omega) (by rw [HLs.out]; unfold maxLen; omega) HSz3.out ?_; intro V5 u5 ho5 hg5 hv5; refine Hid.out ?_)
        refine Lib.hid ?_
        have HOk : Hid (OwF w3.heap.size u5 (noFs (fs.take (k + 1))) V5) := by
          show OwF _ _ _ _
          rw [HTk.out]
          exact OwF.push HO1.out HO2.out HO3.out rfl ho5 rfl hg5 hv5 HKf.out
        obtain ⟨A5, c5, hv5e⟩ := own_shape ho5
        subst hv5e
        have HVQ5 : Hid (VarAt u5 w3.heap.size [.slice A0 (noFs (fs.take k)).length c0]) := (HR.out.2.1.of (HBi.out.block _ hqlt)).of (hg5.block _ (Nat.lt_of_lt_of_le hqlt HBi.out.size) (fun e2 => by have := (HO2.out.lt _ e2.symm).1; omega))
        have HB5 : Hid (Below w3.heap.size w3 u5) := (HR.out.1.trans (HBi.out.mono (Nat.le_of_lt hqlt))).grown hg5 (Nat.le_trans (Nat.le_succ _) HSz3.out) (fun b hb => by have := (HO2.out.lt b hb).1; omega)
        obtain ⟨hce, hcf⟩ := HVQ5.out.cell 0 _ rfl
        clear ho5 hg5 hv5 HO1 HO2 HO3 HN1 HSz3 HKf z0 z1 z2 z3 z4 y0
        go_wp2
        go_roundw
        case rel => exact ⟨k + 1, _, by omega, by go_num, HB5.out.trans set_below, HVQ5.out.set 0 _, HOk.out.keep (fun b hb _ => set_other b hb) (by rw [set_size]; exact Nat.le_refl _)⟩
        case measure => simp [intOf]; omega
      · obtain rfl : k = fs.length := by omega
        have hown := HR.out.2.2
        rw [List.take_length] at hown
        obtain ⟨ks', hXq⟩ := hown.fns
        have y0 := (HR.out.2.1.cell 0 _ rfl).1
        have hXp : XfsC wr (Lo wr.heap.size) fs ks (.slice A fs.length c) := XfsC.more (HX.out.same (same_below hbw (Nat.le_refl _))) fun q hq => Nat.lt_of_lt_of_le hq hbw.size
        have HKC := Lib.hid (checkC fs ks A c wr wr.heap.size (Nat.le_refl _) hXp)
        have HXq : Hid (XfsC wr (Lo wr.heap.size) (noFs fs) ks' (.slice A0 (noFs fs).length c0)) := hXq
        have HY0 := Lib.hid y0
        rw [show noFs (List.take fs.length fs) = noFs fs by rw [List.take_length]] at HY0
        have y1 := HY0.out
        clear hXp hXq hown y0
        generalize hcm : checkM fs = cm at *
        go_wp2_with fail
        with_reducible refine HKC.out.mono ?_
        rintro e w6 ⟨rfl, b6⟩
        have HX6 : Hid (XfsC w6 (Lo w6.heap.size) (noFs fs) ks' (.slice A0 (noFs fs).length c0)) := XfsC.more (HXq.out.same (same_below b6 (Nat.le_refl _))) fun q hq => Nat.lt_of_lt_of_le hq b6.size
        have KQ := checkC (noFs fs) ks' A0 c0 w6 w6.heap.size (Nat.le_refl _) HX6.out
        rw [show checkM (noFs fs) = ((checkM fs).1, 0) from check_st fs, hcm] at KQ
        have HKQ := Lib.hid KQ
        have y6 := cell_below HY0.out b6
        have HB6 := Lib.hid (bthen5 hbw b6 hbw.size)
        clear b6 KQ HKC x0 hcm y1
        go_wp2_with fail
        with_reducible refine HKQ.out.mono ?_
        rintro e w7 ⟨rfl, b7⟩
        have HB7 := Lib.hid (bthen5 HB6.out b7 HB6.out.size)
        clear b7 HKQ y6
        obtain ⟨m1, m2⟩ := cm
        go_wp2
        go_ret
        exact ⟨rfl, HB7.out⟩
end Go.Proofs.YtfcpabhkconjmaaGreatDoor
