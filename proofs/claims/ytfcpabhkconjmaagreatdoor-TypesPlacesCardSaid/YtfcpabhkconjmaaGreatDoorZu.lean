/- Whether a program is great is told, whatever it is, and changes nothing. Conditions: the program lies in memory. -/
import Derived.Test.YtfcpabhkconjmaaGreatDoorZs
namespace Go.Proofs.YtfcpabhkconjmaaGreatDoor
open Go.RowKit
set_option maxRecDepth 100000
set_option linter.unusedSimpArgs false
set_option linter.unusedVariables false

theorem funCellsX {w : World} {D : Nat → Prop} {l : List Xf} {ks : List Two} {V : Value} (h : XfsC w D l ks V) {i : Nat} {f : Xf} (he : l[i]? = some f) : ∃ (b o c : Nat) (k : Two), V = .slice (some ⟨b, o, none⟩) l.length c ∧ l.length ≤ c ∧ c ≤ maxLen ∧ w.rangeAt b (o + i * 5) (xfC f k.p k.b) ∧ XfK w D f k := by
  obtain ⟨hk, h1, h2⟩ := h
  have hi := (List.getElem?_eq_some_iff.1 he).1
  obtain ⟨k, hk'⟩ : ∃ k, ks[i]? = some k := ⟨_, List.getElem?_eq_getElem (by omega)⟩
  have hg := fun j hj => zip_get (f := fun (f : Xf) (k : Two) => xfC f k.p k.b) (m := 5) (fun _ _ => rfl) l ks i j f k he hk' hj
  obtain ⟨b, o, c, rfl, a1, a2, a3, a4⟩ := h1.plain5 (by
    intro e0
    have := hg 0 (by omega)
    unfold xfsC at e0
    rw [e0] at this
    simp [xfC] at this)
  refine ⟨b, o, c, k, rfl, a1, a2, fun j v hv => ?_, h2 i f k he hk'⟩
  have hj : j < 5 := by
    have := (List.getElem?_eq_some_iff.1 hv).1
    simpa [xfC] using this
  rw [Nat.add_assoc]
  exact a4 _ v ((hg j hj).trans hv)
def SomeBool (w : World) (e : Ending) (w' : World) : Prop := ∃ b : Bool, e = .returned (.bool b) ∧ Below w.heap.size w w'
set_option maxHeartbeats 1600000 in
theorem greatW (fs : List Xf) (ks : List Two) (A : Option Addr) (c : Nat) (w : World) (hX : XfsC w (Lo w.heap.size) fs ks (.slice A fs.length c)) : Calls Tryz.prog 16 #[.agg #[.slice A fs.length c]] w (SomeBool w) := by
  have hmx := hX.2.1.len5
  have HX := Lib.hid hX
  have hb0 := below_alloc w (.cells #[.slice A fs.length c] 26)
  have HB0 := Lib.hid hb0
  have hv : VarAt (w.alloc (.cells #[.slice A fs.length c] 26)) w.heap.size [.slice A fs.length c] := VarAt.block (cs := [_]) (heap_alloc_new w _)
  have HV := Lib.hid hv
  clear hX hb0 hv
  go_enter Tryz.func16, Tryz.ntmps16
  go_upto_region 1 with fail
  generalize w.alloc (.cells #[.slice A fs.length c] 26) = w1 at *
  have x0 := (HV.out.cell 0 _ rfl).1
  by_cases h200 : fs.length > 200
  · have q : decide ((200 : Int) < fs.length) = true := by rw [decide_eq_true_eq]; omega
    go_wp2
    go_ret
    exact ⟨_, rfl, HB0.out⟩
  · have q : decide ((200 : Int) < fs.length) = false := by rw [decide_eq_false_iff_not]; omega
    go_wp2
    clear x0 q
    go_loopw [3, 4] (fun v i wr => ∃ (k : Nat) (n : Int), k ≤ fs.length ∧ i = .int .i64 k ∧ v = .int .i64 n ∧ Hid (Below w1.heap.size w1 wr)) (fun _ i _ => fs.length - (intOf i).toNat)
    case atStart => exact ⟨0, _, Nat.zero_le _, rfl, rfl, Below.refl _ _⟩
    case round =>
      obtain ⟨k, n, hk, rfl, rfl, HB⟩ := hrel
      have x0 := cell_below (HV.out.cell 0 _ rfl).1 HB.out
      by_cases hlt : k < fs.length
      · obtain ⟨f, he⟩ : ∃ f, fs[k]? = some f := ⟨_, List.getElem?_eq_getElem hlt⟩
        have hb1 : Below w.heap.size w wr := HB0.out.trans (HB.out.mono HB0.out.size)
        obtain ⟨b, o, c', q, hV, _, _, hrg, hK⟩ := funCellsX (HX.out.same (same_below hb1 (Nat.le_refl _))) he
        injection hV with hV1 _ hV3
        subst hV1 hV3
        obtain ⟨A2, c2, e2⟩ := hK.params.slice5
        have hc1 : wr.cell? ⟨b, o + k * 5 + 1, none⟩ = some (.slice A2 f.params.length c2) := by rw [← e2]; exact hrg 1 _ rfl
        have hc3 : wr.cell? ⟨b, o + k * 5 + 3, none⟩ = some q.b := hrg 3 _ rfl
        have hmw : ∀ wy, Below wr.heap.size wr wy → ∀ x, Lo w.heap.size x → Lo wy.heap.size x := fun wy hb x hx => Nat.lt_of_lt_of_le hx (Nat.le_trans hb1.size hb.size)
        have KB : Hid (∀ m' wy, Below wr.heap.size wr wy → Calls Tryz.prog 27 #[q.b, .int .i64 m'] wy (SomeInt wy)) := fun m' wy hb => partsW _ f.body q.b m' wy (Nat.lt_succ_self _) ((hK.body.same (same_below hb hb1.size)).morez (hmw wy hb))
        have HQ : Hid (∀ w', Below wr.heap.size wr w' → w'.cell? ⟨w.heap.size, 0, none⟩ = some (.slice (some ⟨b, o, none⟩) fs.length c) ∧ w'.cell? ⟨b, o + k * 5 + 1, none⟩ = some (.slice A2 f.params.length c2) ∧ w'.cell? ⟨b, o + k * 5 + 3, none⟩ = some q.b) := fun w' hb => ⟨cell_below x0 hb, cell_below hc1 hb, cell_below hc3 hb⟩
        clear hc1 hc3 he hK hrg hmw e2
        generalize q.b = qb at *
        generalize f.params.length = np at *
        cases hb : decide (n ≤ 5000) with
        | true =>
          by_cases hmp : (np : Int) ≤ 5000
          · skip
            go_upto_region 7 with fail
            have hbl : Below wr.heap.size wr wr.drew := (Below.refl _ _).drew
            go_region_held3 (fun w' => w'.cell? ⟨w.heap.size, 0, none⟩ = some (.slice (some ⟨b, o, none⟩) fs.length c) ∧ w'.cell? ⟨b, o + k * 5 + 1, none⟩ = some (.slice A2 np c2) ∧ w'.cell? ⟨b, o + k * 5 + 3, none⟩ = some qb)
              (with_reducible exact HQ.out _ hbl)
              (first | (go_at_call 27; refine (KB.out _ _ hbl).mono ?_; rintro e wn ⟨k2, rfl, hbn⟩; replace hbl := bthen5 hbl hbn hbl.size))
            all_goals (have HB2 := Lib.hid (bthen5 HB.out hbl HB.out.size); clear x0)
            all_goals go_wp2
            all_goals (refine ⟨⟨k + 1, _, by omega, by go_num, rfl, HB2.out⟩, ?_⟩; simp [intOf]; omega)
          · have hmp2 : ¬ (np : Int) < 5000 := by omega
            go_upto_region 7 with fail
            have hbl : Below wr.heap.size wr wr.drew := (Below.refl _ _).drew
            go_region_held3 (fun w' => w'.cell? ⟨w.heap.size, 0, none⟩ = some (.slice (some ⟨b, o, none⟩) fs.length c) ∧ w'.cell? ⟨b, o + k * 5 + 1, none⟩ = some (.slice A2 np c2) ∧ w'.cell? ⟨b, o + k * 5 + 3, none⟩ = some qb)
              (with_reducible exact HQ.out _ hbl)
              (first | (go_at_call 27; refine (KB.out _ _ hbl).mono ?_; rintro e wn ⟨k2, rfl, hbn⟩; replace hbl := bthen5 hbl hbn hbl.size))
            all_goals (have HB2 := Lib.hid (bthen5 HB.out hbl HB.out.size); clear x0)
            all_goals go_wp2
            all_goals (refine ⟨⟨k + 1, _, by omega, by go_num, rfl, HB2.out⟩, ?_⟩; simp [intOf]; omega)
        | false =>
          go_wp2
          all_goals go_ret
          all_goals exact ⟨_, rfl, hb1⟩
      · obtain rfl : k = fs.length := by omega
        go_wp2
        all_goals go_ret
        all_goals exact ⟨_, rfl, HB0.out.trans (HB.out.mono HB0.out.size)⟩
end Go.Proofs.YtfcpabhkconjmaaGreatDoor
