/- Types taken off a stack, the last one first. Conditions: those in each theorem. -/
import Derived.Test.YtilmidjkjgeoeaaDoorVI
namespace Go.Proofs.YtilmidjkjgeoeaaDoor
open Go.RowKit Go.MapKept
set_option maxRecDepth 100000
set_option linter.unusedVariables false
set_option linter.unusedSimpArgs false
/-- types in a row that no state lies in -/
def TyAt (w : World) (St : Nat) (V : Value) (want : List Int) : Prop := ∃ A c, V = .slice A want.length c ∧ want.length ≤ c ∧ c ≤ maxLen ∧ ∀ (j : Nat) (t : Int), want[j]? = some t → ∃ b o, A = some ⟨b, o, none⟩ ∧ b ≠ St ∧ b < w.heap.size ∧ w.cell? ⟨b, o + j, none⟩ = some (.int .i64 t)
theorem grown_cell {w w' : World} {g b o : Nat} {v : Value} (hg : w.grownBy w' (some g)) (hb : b < w.heap.size) (hne : b ≠ g) (h : w.cell? ⟨b, o, none⟩ = some v) : w'.cell? ⟨b, o, none⟩ = some v := by
  rw [World.cell?_of_block (a := ⟨b, o, none⟩) (hg.block b hb (fun e => by injection e with e; exact hne e))]
  exact h
theorem pop_step {s : Sv} {want : List Int} {k : Nat} {e : Int} (h : s.st.drop (s.st.length - k) = want.drop (want.length - k)) (hk : k ≤ s.st.length) (he : want[want.length - 1 - k]? = some e) (hkm : k < want.length) :
    ((s.st.take (s.st.length - k)).getLast?.getD 0 = e → e ≠ 0 → k + 1 ≤ s.st.length ∧ s.st.drop (s.st.length - (k + 1)) = want.drop (want.length - (k + 1))) ∧ ((s.st.take (s.st.length - k)).getLast?.getD 0 ≠ e → popV s want = none) := by
  have hw : want.drop (want.length - (k + 1)) = e :: want.drop (want.length - k) := by
    have hl := (List.getElem?_eq_some_iff.1 he).1
    have h1 := List.drop_eq_getElem_cons (l := want) (i := want.length - (k + 1)) (by omega)
    rw [h1, show want.length - (k + 1) + 1 = want.length - k by omega]
    rw [List.getElem?_eq_getElem hl] at he
    injection he with he
    rw [← he]
    congr 1
    congr 1
    omega
  by_cases hk1 : k + 1 ≤ s.st.length
  · obtain ⟨t, ht⟩ : ∃ t, s.st[s.st.length - (k + 1)]? = some t := ⟨s.st[s.st.length - (k + 1)]'(by omega), List.getElem?_eq_getElem _⟩
    have hs : s.st.drop (s.st.length - (k + 1)) = t :: s.st.drop (s.st.length - k) := by
      have h1 := List.drop_eq_getElem_cons (l := s.st) (i := s.st.length - (k + 1)) (by omega)
      rw [h1, show s.st.length - (k + 1) + 1 = s.st.length - k by omega]
      rw [List.getElem?_eq_getElem (by omega)] at ht
      injection ht with ht
      rw [ht]
    have htop : (s.st.take (s.st.length - k)).getLast?.getD 0 = t := by
      rw [List.getLast?_eq_getElem?, List.length_take, show min (s.st.length - k) s.st.length - 1 = s.st.length - (k + 1) by omega, List.getElem?_take_of_lt (by omega), ht]
      rfl
    rw [htop]
    refine ⟨fun e1 _ => ⟨hk1, by rw [hs, hw, h, e1]⟩, fun e1 => ?_⟩
    unfold popV
    rw [if_neg]
    rintro ⟨h1, h2⟩
    have h3 : (s.st.drop (s.st.length - want.length))[want.length - (k + 1)]? = want[want.length - (k + 1)]? := by rw [h2]
    rw [List.getElem?_drop, show s.st.length - want.length + (want.length - (k + 1)) = s.st.length - (k + 1) by omega, ht, show want.length - (k + 1) = want.length - 1 - k by omega, he] at h3
    injection h3 with h3
    exact e1 h3
  · have hkn : k = s.st.length := by omega
    have htop : (s.st.take (s.st.length - k)).getLast?.getD 0 = 0 := by rw [hkn, Nat.sub_self]; rfl
    rw [htop]
    refine ⟨fun e1 e2 => absurd e1.symm e2, fun _ => ?_⟩
    unfold popV
    rw [if_neg]
    rintro ⟨h1, _⟩
    omega
theorem pop_end {s : Sv} {want : List Int} (h : s.st.drop (s.st.length - want.length) = want.drop (want.length - want.length)) (hk : want.length ≤ s.st.length) : popV s want = some ⟨s.st.take (s.st.length - want.length), s.sl⟩ := by
  unfold popV
  rw [Nat.sub_self, List.drop_zero] at h
  rw [if_pos ⟨hk, h⟩]
def PopQ (B W St : Nat) (x : Wx) (S : List (List Int)) (L V R : Value) (s : Sv) (want : List Int) (w : World) (r : Ending) (w' : World) : Prop :=
  w.grownBy w' (some St) ∧ ((r = .returned (.bool true) ∧ ∃ s', popV s want = some s' ∧ StS B W St x S L V R s' w') ∨ (r = .returned (.bool false) ∧ popV s want = none))
/-- the state at a round's beginning -/
def PopI (B W St : Nat) (x : Wx) (S : List (List Int)) (L V R : Value) (s : Sv) (want : List Int) (w wr : World) (k : Nat) : Prop :=
  w.grownBy wr (some St) ∧ StS B W St x S L V R ⟨s.st.take (s.st.length - k), s.sl⟩ wr ∧ k ≤ s.st.length ∧ s.st.drop (s.st.length - k) = want.drop (want.length - k)
set_option maxHeartbeats 1600000 in
theorem popAllS {B W St : Nat} {x : Wx} {S : List (List Int)} {L V R : Value} {s : Sv} (want : List Int) (U : Value) {w : World} (h : StS B W St x S L V R s w) (hU : TyAt w St U want) (hty : ∀ t ∈ want, okTy t) :
    Calls Tryd.prog 43 #[.pointer (some ⟨W, 0, none⟩), .pointer (some ⟨St, 0, none⟩), U] w (PopQ B W St x S L V R s want w) := by
  obtain ⟨A, c, rfl, h1, h2, h3⟩ := hU
  have HI : Hid (PopI B W St x S L V R s want w w 0) := by
    refine ⟨World.grownBy.refl _ _, ?_, Nat.zero_le _, by simp⟩
    rw [Nat.sub_zero, List.take_length]
    exact h
  have H3 := Lib.hid h3
  have HT := Lib.hid hty
  unfold maxLen at h2
  clear h h3 hty
  go_enter Tryd.func43, Tryd.ntmps43
  go_wp2_with fail
  go_loopw [7, 10] (fun _ i wr => ∃ k : Nat, k ≤ want.length ∧ i = .int .i64 k ∧ Hid (PopI B W St x S L V R s want w wr k)) (fun _ i _ => want.length - (intOf i).toNat)
  case atStart => exact ⟨0, by omega, rfl, HI⟩
  case round =>
    obtain ⟨k, hk, rfl, HP⟩ := hrel
    by_cases hlt : k < want.length
    · obtain ⟨e, he⟩ : ∃ e, want[want.length - 1 - k]? = some e := ⟨want[want.length - 1 - k]'(by omega), List.getElem?_eq_getElem _⟩
      obtain ⟨b, o, rfl, hbne, hbl, hbc⟩ := H3.out _ e he
      have heo := HT.out e (List.mem_of_getElem? he)
      have hz : e ≠ 0 := by have := heo.1; omega
      obtain ⟨p1, p2⟩ := pop_step HP.out.2.2.2 HP.out.2.2.1 he hlt
      have K := Lib.hid (popS (HP.out.2.1.1.below (Below.refl wr.heap.size wr).drew |> fun hw => (⟨hw, HP.out.2.1.ok, HP.out.2.1.st, HP.out.2.1.hB, HP.out.2.1.sl⟩ : StS B W St x S L V R ⟨s.st.take (s.st.length - k), s.sl⟩ wr.drew)))
      have hc0 : wr.cell? ⟨b, o + (want.length - 1 - k), none⟩ = some (.int .i64 e) := grown_cell HP.out.1 hbl hbne hbc
      have HC := Lib.hid hc0
      have HCd : Hid (wr.drew.cell? ⟨b, o + (want.length - 1 - k), none⟩ = some (.int .i64 e)) := hc0
      have hbr : b < wr.heap.size := Nat.lt_of_lt_of_le hbl HP.out.1.size
      have HX := Lib.hid (And.intro hbr (And.intro hbne (And.intro p1 (And.intro p2 hz))))
      generalize hj : want.length - 1 - k = j at *
      have hji : (want.length : Int) - 1 - (k : Int) = (j : Int) := by omega
      have hjl : (j : Int) < (want.length : Int) := by omega
      have hwl : (want.length : Int) ≤ 9223372036854775807 := by omega
      have hwa : IntKind.i64.wrap ((want.length : Int) - 1) = (want.length : Int) - 1 := IntWalk.i64_in _ (by omega)
      have hwb : IntKind.i64.wrap ((want.length : Int) - 1 - (k : Int)) = (j : Int) := (IntWalk.i64_in _ (by omega)).trans hji
      clear hji
      generalize (s.st.take (s.st.length - k)).getLast?.getD 0 = t at *
      clear he hbc hbl p1 p2 hc0 heo
      go_upto_region 4 with fail
      clear hj
      go_region_held3 (fun w' => w'.cell? ⟨b, o + j, none⟩ = some (.int .i64 e))
        (first | with_reducible exact KC.out | with_reducible exact HC.out | with_reducible exact HCd.out)
        (first | (go_at_call 38; refine K.out.mono ?_; rintro r w2 ⟨rfl, g1, g2⟩; have KC := Lib.hid (grown_cell (w := wr) ⟨g2.os, g2.tape, g2.output, g2.size, g2.block⟩ HX.out.1 HX.out.2.1 HC.out); have KG := Lib.hid (And.intro g1 (show wr.grownBy w2 (some St) from ⟨g2.os, g2.tape, g2.output, g2.size, g2.block⟩)); clear g1 g2))
      by_cases hte : t = e
      · subst hte
        obtain ⟨n1, n2⟩ := HX.out.2.2.1 rfl HX.out.2.2.2.2
        have HP2 : Hid (PopI B W St x S L V R s want w w2 (k + 1)) := by
          refine ⟨HP.out.1.trans KG.out.2, ?_, n1, n2⟩
          have hd : (s.st.take (s.st.length - k)).dropLast = s.st.take (s.st.length - (k + 1)) := by
            rw [List.dropLast_eq_take, List.length_take, List.take_take]
            congr 1
            omega
          have := KG.out.1
          rw [hd] at this
          exact this
        clear n1 n2 HP KG KC K HC HX
        go_wp2
        go_round
        case measure => simp [intOf]; omega
        case rel => exact ⟨k + 1, by omega, by go_num, HP2⟩
      · have hn := Lib.hid (HX.out.2.2.2.1 hte)
        have hg := Lib.hid (HP.out.1.trans KG.out.2)
        clear HP KG KC K HC HX
        go_wp2
        go_ret
        exact ⟨hg.out, .inr ⟨rfl, hn.out⟩⟩
    · obtain rfl : k = want.length := by omega
      have he := Lib.hid (pop_end HP.out.2.2.2 HP.out.2.2.1)
      go_wp2
      go_ret
      exact ⟨HP.out.1, .inl ⟨rfl, _, he.out, HP.out.2.1⟩⟩
end Go.Proofs.YtilmidjkjgeoeaaDoor
