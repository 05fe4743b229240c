/- The walk of TokenLexes: it returns true, and nothing that was there has changed. Conditions: none beyond what its arguments are, and their reach; the tables lie as the program lays them. -/
import Derived.Test.YtdmjlgjnboofdaaDoorRy
import Derived.Test.YtdmjlgjnboofdaaDoorSa
import Derived.Test.YtdmjlgjnboofdaaDoorWw
import Derived.Test.YtdmjlgjnboofdaaDoorNu
namespace Go.Proofs.YtdmjlgjnboofdaaDoor
open Go.RowKit

/-- what the loop over the copy keeps -/
def TouchRel (w0 : World) (base : Nat) (A : Option Addr) (c : Nat) (b : List Nat) (k : Nat) (wr : World) : Prop :=
  ∃ xs : List Value, wr.ownsRow base 5 1 (.slice A b.length c) b.length xs ∧ w0.grownBy wr (Value.ownBlock (.slice A b.length c)) ∧ ∀ (j x : Nat), k ≤ j → b[j]? = some x → xs[j]? = some (.int .u8 (x : Nat))
theorem TouchRel.step {w0 wr : World} {base g : Nat} {c : Nat} {b : List Nat} {k : Nat} (h : TouchRel w0 base (some ⟨g, 0, none⟩) c b k wr) (u : Value) : TouchRel w0 base (some ⟨g, 0, none⟩) c b (k + 1) (wr.setCell ⟨g, k, none⟩ u) := by
  obtain ⟨xs, h1, h2, h3⟩ := h
  have hst := h1.stored k u
  refine ⟨xs.set k u, hst.1, grown_trans h2 hst.2, fun j x hj hx => ?_⟩
  rw [List.getElem?_set_ne (by omega)]
  exact h3 j x (by omega) hx
theorem own_kept4 {w w' : World} {base : Nat} {row : Option Nat} {e : TypeId} {size : Nat} {v : Value} {n : Nat} {xs : List Value} (h : w.ownsRow base e size v n xs) (hg : w.grownBy w' row) (hlt : ∀ g, row = some g → g < base) : w'.ownsRow base e size v n xs := by
  refine h.kept hg ?_
  cases hv : v.ownBlock with
  | none => exact .inl rfl
  | some k =>
    refine .inr fun e => ?_
    have h1 := (h.lt k hv).1
    have h2 := hlt k e.symm
    omega
/-- two own rows of the same tokens -/
theorem two_rows {w : World} {b1 b2 : Nat} {v1 v2 : Value} {ts : List Tok} (h1 : w.ownsRow b1 33 4 v1 ts.length (toksC ts)) (h2 : w.ownsRow b2 33 4 v2 ts.length (toksC ts)) : ∃ A1 c1 A2 c2, v1 = .slice A1 ts.length c1 ∧ v2 = .slice A2 ts.length c2 ∧ TwoRows w A1 A2 ts := by
  cases hts : ts with
  | nil =>
    rw [hts] at h1 h2
    obtain ⟨A1, c1, e1⟩ := own_shape h1
    obtain ⟨A2, c2, e2⟩ := own_shape h2
    exact ⟨A1, c1, A2, c2, e1, e2, .inl rfl⟩
  | cons t r =>
    have hpos : 0 < ts.length := by rw [hts]; simp
    obtain ⟨g1, c1, e1, _, l1, r1⟩ := own_tok h1 hpos
    obtain ⟨g2, c2, e2, _, l2, r2⟩ := own_tok h2 hpos
    rw [← hts]
    refine ⟨_, c1, _, c2, e1, e2, .inr ⟨g1, 0, g2, 0, rfl, rfl, l1, l2, fun i u hu => ?_⟩⟩
    have q1 := r1 i u hu
    have q2 := r2 i u hu
    unfold TokAt at q1 q2
    unfold TokIn
    rw [Nat.zero_add]
    exact ⟨q1, q2⟩

set_option maxRecDepth 100000 in
set_option maxHeartbeats 1600000 in
theorem lexes_walk (A : Option Addr) (l : List Nat) (c : Nat) (s : List Nat) (w : World) (hc : l.length ≤ c) (hcm : c ≤ maxLen) (hr : c ≤ 140737488351232) (hl : Lies w w.heap.size A c (bts l)) (hy : Byn l) (hs : Byn s) (ht : Tab w) :
    Calls Tryd.prog 3 #[.slice A l.length c, .string (strN s)] w fun e w' => e = .returned (.bool true) ∧ Below w.heap.size w w' := by
  have HL := Lib.hid hl
  have HY := Lib.hid hy
  have HS := Lib.hid hs
  have HT := Lib.hid ht
  have hpos := ht.1
  clear hl hy hs ht
  obtain ⟨i0, hi, hz0, hz1, hz2⟩ := info_parts info5
  go_enter Tryd.func3, Tryd.ntmps3
  go_wp2_with fail
  refine (head_true _ HT.out).mono ?_
  rintro e w1 ⟨rfl, hb1⟩
  have BW1 := Lib.hid hb1
  have s1 := hb1.size
  clear hb1
  have ho0 := Lib.hid (own_new w1 [] 0 rfl (Nat.zero_le _))
  have hal := Lib.hid (below_alloc w1 (.cells #[] 5))
  have HZ0 := Lib.hid hal.out.size
  have lb0 := Lib.hid (((HL.out.below BW1.out).more s1).below hal.out)
  go_wp2_with (at_builtin; refine wpList_append_lies rfl (.tmp 15) (.tmp 16) 22 rfl w1.heap.size 5 i0 (.int .u8 0) 1 Tryd.underlying22 hi hz0 hz1 hz2 rfl _ _ _ rfl ho0.out _ A l.length c (bts l) rfl (by rw [bts_length]) lb0.out (bts_one _) (by unfold maxLen; omega) (by omega) HZ0.out ?_; intro v2 w2 ho2 hg2)
  have hB2 : Below w1.heap.size w1 w2 := hal.out.grown hg2 HZ0.out (fun k hk => (ho0.out.lt k hk).1)
  have hown := own_eq ho2 (m := l.length) (ys := bts l) (by omega) (by simp)
  obtain ⟨Ao, co, hv2, n1, n2, n3⟩ := own_lies hown
  subst hv2
  have BW2 := Lib.hid (BW1.out.trans (hB2.mono s1))
  have s2 := BW2.out.size
  have HOWN := Lib.hid hown
  have HLO := Lib.hid n3
  clear ho0 hal HZ0 lb0 ho2 hg2 hown n3 hB2 hi hz0 hz1 hz2
  refine (lex Ao l co w2 n1 n2 HLO.out HY.out (HT.out.below BW2.out hpos)).mono ?_
  rintro e w3 ⟨va, rfl, oa, e3⟩
  have BW3 := Lib.hid (BW2.out.trans (e3.mono s2))
  have OA := Lib.hid oa
  have hst : TouchRel w3 w1.heap.size Ao co l 0 w3 := ⟨bts l, own_below HOWN.out e3 (Nat.le_refl _), World.grownBy.refl _ _, fun j x _ hx => bts_get hx⟩
  have HST := Lib.hid hst
  have HLT : Hid (∀ g, Value.ownBlock (.slice Ao l.length co) = some g → g < w2.heap.size) := fun g hg => (HOWN.out.lt g hg).2
  have hbl : l.length ≤ 140737488351232 := by omega
  clear oa e3 hst
  have HM := Lib.hid (lexed_many l)
  generalize hE : lexed l = o at *
  have HE := Lib.hid hE
  clear hE
  obtain ⟨err, ts, place⟩ := o
  dsimp only at OA HM ⊢
  go_wp2
  go_loopw [10] (fun i wr => ∃ k : Nat, k ≤ l.length ∧ i = .int .i64 k ∧ TouchRel w3 w1.heap.size Ao co l k wr) (fun i _ => l.length - (intOf i).toNat)
  case atStart => exact ⟨0, Nat.zero_le _, rfl, HST.out⟩
  case round =>
    clear HST
    obtain ⟨k, hk, rfl, hR⟩ := hrel
    by_cases hkl : k < l.length
    · obtain ⟨xs, r1, r2, r3⟩ := hR
      obtain ⟨g, rfl, hg⟩ := own_addr r1 (by omega)
      obtain ⟨x, hx⟩ : ∃ x, l[k]? = some x := ⟨_, List.getElem?_eq_getElem hkl⟩
      have hcell : wr.cell? ⟨g, k, none⟩ = some (.int .u8 (x : Nat)) := by rw [r1.cellAt k (by omega)]; exact r3 k x (Nat.le_refl _) hx
      have hfz := r1.frozenAt k
      have HR : Hid (TouchRel w3 w1.heap.size (some ⟨g, 0, none⟩) co l k wr) := ⟨xs, r1, r2, r3⟩
      clear r1 r2 r3 hx
      go_wp2
      go_roundw
      case rel => exact ⟨k + 1, by omega, by go_num, HR.out.step _⟩
      case measure => simp [intOf]; omega
    · obtain ⟨xs, r1, r2, r3⟩ := hR
      have F1 := Lib.hid (own_kept4 OA.out r2 HLT.out)
      have hbw : Below w.heap.size w wr := BW3.out.grown r2 BW3.out.size (fun g hg => by have h1 := (r1.lt g hg).1; omega)
      have HBW := Lib.hid hbw
      have sw := hbw.size
      clear r1 r2 r3 OA HOWN HLO hbw
      go_wp2_with fail
      refine (refLex A l c wr hc hcm ((HL.out.below HBW.out).more sw) HY.out).mono ?_
      rw [HE.out]
      rintro e w5 ⟨vb, rfl, ob, e5⟩
      obtain ⟨A1, c1, A2, c2, rfl, rfl, hrows⟩ := two_rows (own_below F1.out e5 (Nat.le_refl _)) ob
      have HRW := Lib.hid hrows
      have BW5 := Lib.hid (HBW.out.trans (e5.mono sw))
      have s5 := BW5.out.size
      clear ob e5 hrows F1
      dsimp only
      go_wp2_with fail
      refine (same A1 A2 ts ts.length c1 c2 w5 rfl HM.out HRW.out).mono ?_
      rintro e w6 ⟨rfl, e6⟩
      have BW6 := Lib.hid (BW5.out.trans (e6.mono s5))
      have s6 := BW6.out.size
      have K1 := Lib.hid (word s w6 HS.out (HT.out.below BW6.out hpos))
      have K2 := Lib.hid (refWord s w6 HS.out)
      generalize isWord s = q at *
      clear e6 HRW
      go_wp2_with fail
      refine K1.out.mono ?_
      rintro e w' ⟨rfl, rfl⟩
      go_wp2_with fail
      refine K2.out.mono ?_
      rintro e w7 ⟨rfl, e7⟩
      have hfin := BW6.out.trans (e7.mono s6)
      clear e7
      cases q
      all_goals
        go_wp2
        go_ret
        exact ⟨rfl, hfin⟩
end Go.Proofs.YtdmjlgjnboofdaaDoor
