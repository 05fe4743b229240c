/- How many parts a program has is told, whatever it is, and changes nothing. Conditions: those in each theorem. -/
import Derived.Test.YtfcpabhkconjmaaGreatDoorZt
namespace Go.Proofs.YtfcpabhkconjmaaGreatDoor
open Go.RowKit
set_option maxRecDepth 100000
set_option linter.unusedSimpArgs false
set_option linter.unusedVariables false

/-- some number is told, and nothing that was there has changed -/
def SomeInt (w : World) (e : Ending) (w' : World) : Prop := ∃ k : Int, e = .returned (.int .i64 k) ∧ Below w.heap.size w w'
theorem kidCellX {w : World} {D : Nat → Prop} {l : List Xe} {V : Value} (h : XesC w D l V) {i : Nat} {e : Xe} (he : l[i]? = some e) : ∃ (b o c : Nat) (k : Value), V = .slice (some ⟨b, o, none⟩) l.length c ∧ w.cell? ⟨b, o + i * 5 + 3, none⟩ = some k ∧ XesC w D e.kids k := by
  cases h with
  | mk _ ks _ hk h1 ht h2 =>
    have hi := (List.getElem?_eq_some_iff.1 he).1
    obtain ⟨k, hk'⟩ : ∃ k, ks[i]? = some k := ⟨_, List.getElem?_eq_getElem (by omega)⟩
    have hg := zip_get (f := xeC) (m := 5) (fun _ _ => rfl) l ks i 3 e k he hk' (by omega)
    obtain ⟨b, o, c, rfl, a1, a2, a3, a4⟩ := h1.plain5 (by
      intro e0
      unfold xesC at e0
      rw [e0] at hg
      simp [xeC] at hg)
    refine ⟨b, o, c, k, rfl, ?_, h2 i e k he hk'⟩
    rw [Nat.add_assoc]
    exact a4 _ _ hg
theorem partCellsX {w : World} {D : Nat → Prop} {l : List Xs} {V : Value} (h : XssC w D l V) {i : Nat} {s : Xs} (he : l[i]? = some s) : ∃ (b o c : Nat) (k : Three), V = .slice (some ⟨b, o, none⟩) l.length c ∧ w.cell? ⟨b, o + i * 6 + 2, none⟩ = some k.e ∧ w.cell? ⟨b, o + i * 6 + 3, none⟩ = some k.b ∧ w.cell? ⟨b, o + i * 6 + 4, none⟩ = some k.f ∧ XesC w D s.exprs k.e ∧ XssC w D s.body k.b ∧ XssC w D s.els k.f := by
  cases h with
  | mk _ ks _ hk h1 ht h2 h3 h4 =>
    have hi := (List.getElem?_eq_some_iff.1 he).1
    obtain ⟨k, hk'⟩ : ∃ k, ks[i]? = some k := ⟨_, List.getElem?_eq_getElem (by omega)⟩
    have hg := fun j hj => zip_get (f := fun (s : Xs) (k : Three) => xsC s k.e k.b k.f) (m := 6) (fun _ _ => rfl) l ks i j s k he hk' hj
    obtain ⟨b, o, c, rfl, a1, a2, a3, a4⟩ := h1.plain5 (by
      intro e0
      have := hg 0 (by omega)
      unfold xssC at e0
      rw [e0] at this
      simp [xsC] at this)
    refine ⟨b, o, c, k, rfl, ?_, ?_, ?_, h2 i s k he hk', h3 i s k he hk', h4 i s k he hk'⟩
    all_goals
      rw [Nat.add_assoc]
      first | exact a4 _ _ (hg 2 (by omega)) | exact a4 _ _ (hg 3 (by omega)) | exact a4 _ _ (hg 4 (by omega))
theorem XesC.len5 {w : World} {D : Nat → Prop} {l : List Xe} {V : Value} (h : XesC w D l V) : l.length ≤ 9223372036854775807 := by
  cases h with
  | mk _ ks _ hk h1 ht h2 => exact h1.len5
theorem XssC.len5 {w : World} {D : Nat → Prop} {l : List Xs} {V : Value} (h : XssC w D l V) : l.length ≤ 9223372036854775807 := by
  cases h with
  | mk _ ks _ hk h1 ht h2 h3 h4 => exact h1.len5
set_option maxHeartbeats 1600000 in
theorem exprsW : ∀ (N : Nat) (l : List Xe) (V : Value) (m : Int) (w : World), szEs l < N → XesC w (Lo w.heap.size) l V → Calls Tryz.prog 48 #[V, .int .i64 m] w (SomeInt w) := by
  intro N
  induction N with
  | zero => intro l V m w hN; omega
  | succ N ih =>
    intro l V m w hN hX
    have hmx := hX.len5
    obtain ⟨A, c, rfl⟩ := xesC_slice hX
    have HX := Lib.hid hX
    have HI := Lib.hid ih
    have HNz := Lib.hid hN
    clear hX ih hN
    go_enter Tryz.func48, Tryz.ntmps48
    go_upto_region 1 with fail
    go_cut [5] (fun v wx => ∃ k : Int, v = .int .i64 k ∧ wx = w)
    case first =>
      go_wp2_with fail
      all_goals go_meet
      all_goals exact ⟨_, rfl, rfl⟩
    case rest =>
      obtain ⟨n0, rfl, rfl⟩ := hcut
      go_upto_region 2 with fail
      go_wp2
      go_loopw [5, 6] (fun v i wr => ∃ (k : Nat) (n : Int), k ≤ l.length ∧ i = .int .i64 k ∧ v = .int .i64 n ∧ Hid (Below wc.heap.size wc wr)) (fun _ i _ => l.length - (intOf i).toNat)
      case atStart => exact ⟨0, n0, Nat.zero_le _, rfl, rfl, Below.refl _ _⟩
      case round =>
        obtain ⟨k, n, hk, rfl, rfl, HB⟩ := hrel
        by_cases hlt : k < l.length
        · obtain ⟨e, he⟩ : ∃ e, l[k]? = some e := ⟨_, List.getElem?_eq_getElem hlt⟩
          have hsz := szE_mem (List.mem_of_getElem? he)
          have hkz := szE_kids e
          obtain ⟨b, o, c', q, hV, hc3, hq⟩ := kidCellX (HX.out.same (same_below HB.out (Nat.le_refl _))) he
          injection hV with hV1 _ hV3
          subst hV1 hV3
          have HK : Hid (∀ m', Calls Tryz.prog 48 #[q, .int .i64 m'] wr (SomeInt wr)) := fun m' => HI.out e.kids q m' wr (by have := HNz.out; omega) (hq.morez fun x hx => Nat.lt_of_lt_of_le hx HB.out.size)
          clear hq he hsz hkz
          cases hb : decide (n ≤ m) with
          | true =>
            go_wp2_with fail
            with_reducible refine (HK.out _).mono ?_
            rintro e2 w2 ⟨k2, rfl, b2⟩
            have HB2 := Lib.hid (bthen5 HB.out b2 HB.out.size)
            clear b2 HK hc3
            go_wp2
            go_roundw
            case rel => exact ⟨k + 1, _, by omega, by go_num, rfl, HB2.out⟩
            case measure => simp [intOf]; omega
          | false =>
            clear HK hc3
            go_wp2
            all_goals go_ret
            all_goals exact ⟨_, rfl, HB.out⟩
        · obtain rfl : k = l.length := by omega
          go_wp2
          all_goals go_ret
          all_goals exact ⟨_, rfl, HB.out⟩
set_option maxHeartbeats 1600000 in
theorem partsW : ∀ (N : Nat) (l : List Xs) (V : Value) (m : Int) (w : World), szSs l < N → XssC w (Lo w.heap.size) l V → Calls Tryz.prog 27 #[V, .int .i64 m] w (SomeInt w) := by
  intro N
  induction N with
  | zero => intro l V m w hN; omega
  | succ N ih =>
    intro l V m w hN hX
    have hmx := hX.len5
    obtain ⟨A, c, rfl⟩ := xssC_slice hX
    have HX := Lib.hid hX
    have HI := Lib.hid ih
    have HNz := Lib.hid hN
    clear hX ih hN
    go_enter Tryz.func27, Tryz.ntmps27
    go_wp2
    go_loopw [5, 6] (fun v i wr => ∃ (k : Nat) (n : Int), k ≤ l.length ∧ i = .int .i64 k ∧ v = .int .i64 n ∧ Hid (Below w.heap.size w wr)) (fun _ i _ => l.length - (intOf i).toNat)
    case atStart => exact ⟨0, _, Nat.zero_le _, rfl, rfl, Below.refl _ _⟩
    case round =>
      obtain ⟨k, n, hk, rfl, rfl, HB⟩ := hrel
      by_cases hlt : k < l.length
      · obtain ⟨s, he⟩ : ∃ s, l[k]? = some s := ⟨_, List.getElem?_eq_getElem hlt⟩
        have hsz := szS_mem (List.mem_of_getElem? he)
        have hkz := szS_body s
        obtain ⟨b, o, c', q, hV, hc2, hc3, hc4, hq2, hq3, hq4⟩ := partCellsX (HX.out.same (same_below HB.out (Nat.le_refl _))) he
        injection hV with hV1 _ hV3
        subst hV1 hV3
        have hm : ∀ x, Lo w.heap.size x → Lo wr.heap.size x := fun x hx => Nat.lt_of_lt_of_le hx HB.out.size
        have hmw : ∀ wy, Below wr.heap.size wr wy → ∀ x, Lo wr.heap.size x → Lo wy.heap.size x := fun wy hb x hx => Nat.lt_of_lt_of_le hx hb.size
        have KE : Hid (∀ m' wy, Below wr.heap.size wr wy → Calls Tryz.prog 48 #[q.e, .int .i64 m'] wy (SomeInt wy)) := fun m' wy hb => exprsW _ s.exprs q.e m' wy (Nat.lt_succ_self _) (((hq2.morez hm).same (same_below hb (Nat.le_refl _))).morez (hmw wy hb))
        have KB : Hid (∀ m' wy, Below wr.heap.size wr wy → Calls Tryz.prog 27 #[q.b, .int .i64 m'] wy (SomeInt wy)) := fun m' wy hb => HI.out s.body q.b m' wy (by have := HNz.out; omega) (((hq3.morez hm).same (same_below hb (Nat.le_refl _))).morez (hmw wy hb))
        have KF : Hid (∀ m' wy, Below wr.heap.size wr wy → Calls Tryz.prog 27 #[q.f, .int .i64 m'] wy (SomeInt wy)) := fun m' wy hb => HI.out s.els q.f m' wy (by have := HNz.out; omega) (((hq4.morez hm).same (same_below hb (Nat.le_refl _))).morez (hmw wy hb))
        have HQ : Hid (∀ w', Below wr.heap.size wr w' → w'.cell? ⟨b, o + k * 6 + 2, none⟩ = some q.e ∧ w'.cell? ⟨b, o + k * 6 + 3, none⟩ = some q.b ∧ w'.cell? ⟨b, o + k * 6 + 4, none⟩ = some q.f) := fun w' hb => ⟨cell_below hc2 hb, cell_below hc3 hb, cell_below hc4 hb⟩
        clear hq2 hq3 hq4 hc2 hc3 hc4 he hsz hkz hm hmw
        generalize q.e = qe at *
        generalize q.b = qb at *
        generalize q.f = qf at *
        cases hb : decide (n ≤ m) with
        | true =>
          go_upto_region 5 with fail
          have hbl : Below wr.heap.size wr wr.drew := (Below.refl _ _).drew
          go_region_held3 (fun w' => w'.cell? ⟨b, o + k * 6 + 2, none⟩ = some qe ∧ w'.cell? ⟨b, o + k * 6 + 3, none⟩ = some qb ∧ w'.cell? ⟨b, o + k * 6 + 4, none⟩ = some qf)
            (with_reducible exact HQ.out _ hbl)
            (first | (go_at_call 27; (first | with_reducible refine (KB.out _ _ hbl).mono ?_ | with_reducible refine (KF.out _ _ hbl).mono ?_); rintro e wn ⟨k2, rfl, hbn⟩; replace hbl := bthen5 hbl hbn hbl.size) | (go_at_call 48; refine (KE.out _ _ hbl).mono ?_; rintro e wn ⟨k2, rfl, hbn⟩; replace hbl := bthen5 hbl hbn hbl.size))
          have HB2 := Lib.hid (bthen5 HB.out hbl HB.out.size)
          go_wp2
          go_roundw
          case rel => exact ⟨k + 1, _, by omega, by go_num, rfl, HB2.out⟩
          case measure => simp [intOf]; omega
        | false =>
          go_wp2
          all_goals go_ret
          all_goals exact ⟨_, rfl, HB.out⟩
      · obtain rfl : k = l.length := by omega
        go_wp2
        all_goals go_ret
        all_goals exact ⟨_, rfl, HB.out⟩
end Go.Proofs.YtfcpabhkconjmaaGreatDoor
