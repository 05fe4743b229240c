/- The walk of WireTexts: it returns true, and nothing that was there has changed. Conditions: none beyond what its arguments are, and their reach. -/
import Derived.Test.YtjkdlchfmgefjaaY
namespace Go.Proofs.Ytjkdlchfmgefjaa
open Go.RowKit

theorem grown_trans {w w' w'' : World} {r : Option Nat} (h1 : w.grownBy w' r) (h2 : w'.grownBy w'' r) : w.grownBy w'' r :=
  ⟨h2.os.trans h1.os, h2.tape.trans h1.tape, h2.output.trans h1.output, Nat.le_trans h1.size h2.size, fun k hk hr => (h2.block k (Nat.lt_of_lt_of_le hk h1.size) hr).trans (h1.block k hk hr)⟩
theorem own_kept' {w w' : World} {base : Nat} {row : Option Nat} {e : TypeId} {v : Value} {n : Nat} {xs : List Value} (h : w.ownsRow base e 1 v n xs) (hg : w.grownBy w' row) (hlt : ∀ g, row = some g → g < base) : w'.ownsRow base e 1 v n xs := by
  refine h.kept hg ?_
  cases hv : v.ownBlock with
  | none => exact .inl rfl
  | some k =>
    refine .inr fun e => ?_
    have h1 := (h.lt k hv).1
    have h2 := hlt k e.symm
    omega
theorem grid_kept' {w w' : World} {base : Nat} {row : Option Nat} {v : Value} {ls : List (List Int)} (h : GridO w base v ls) (hg : w.grownBy w' row) (hlt : ∀ g, row = some g → g < base) : GridO w' base v ls := by
  obtain ⟨vs, h1, h2, h3⟩ := h
  exact ⟨vs, h1, own_kept' h2 hg hlt, fun j x l hx hl => own_kept' (h3 j x l hx hl) hg hlt⟩
theorem own_str {w : World} {base : Nat} {v : Value} {l : List Int} (h : w.ownsRow base 5 1 v l.length (cellsOf l)) : (convert 22 9 v).run Try.prog w = .ok (.string (strOfNums l)) w := by
  obtain ⟨A, c, rfl, _, _, h3⟩ := own_lies h
  exact run_string_lies w 22 9 5 Try.underlying22 Try.underlying5 Try.underlying9 _ A l.length c l rfl h3
theorem own_addr {w : World} {base : Nat} {A : Option Addr} {n c : Nat} {xs : List Value} (h : w.ownsRow base 5 1 (.slice A n c) n xs) (hn : 0 < n) : ∃ g, A = some ⟨g, 0, none⟩ ∧ base ≤ g := by
  rcases h.2 with ⟨e, h0⟩ | ⟨g, cap, cur, e, hb, _⟩
  · omega
  · injection e with e1
    exact ⟨g, e1, hb⟩

/-- what the loop over the copy keeps -/
def TouchRel (w0 : World) (base : Nat) (A : Option Addr) (c : Nat) (b : List Int) (k : Nat) (wr : World) : Prop :=
  ∃ xs : List Value, wr.ownsRow base 5 1 (.slice A b.length c) b.length xs ∧ w0.grownBy wr (Value.ownBlock (.slice A b.length c)) ∧ ∀ (j : Nat) (x : Int), k ≤ j → b[j]? = some x → xs[j]? = some (.int .u8 x)
theorem TouchRel.step {w0 wr : World} {base g : Nat} {c : Nat} {b : List Int} {k : Nat} (h : TouchRel w0 base (some ⟨g, 0, none⟩) c b k wr) (u : Value) : TouchRel w0 base (some ⟨g, 0, none⟩) c b (k + 1) (wr.setCell ⟨g, k, none⟩ u) := by
  obtain ⟨xs, h1, h2, h3⟩ := h
  have hst := h1.stored k u
  refine ⟨xs.set k u, hst.1, grown_trans h2 hst.2, fun j x hj hx => ?_⟩
  rw [List.getElem?_set_ne (by omega)]
  exact h3 j x (by omega) hx

set_option maxRecDepth 100000 in
set_option maxHeartbeats 4000000 in
theorem texts_walk (A0 A1 A2 : Option Addr) (c0 c1 c2 : Nat) (s b : List Int) (ls : List (List Int)) (p : Int) (w : World) (hp1 : -9223372036854775808 ≤ p) (hp2 : p ≤ 9223372036854775807)
    (hs1 : s.length ≤ c0) (hs2 : c0 ≤ maxLen) (hl1 : ls.length ≤ c1) (hl2 : c1 ≤ maxLen) (hb1 : b.length ≤ c2) (hb2 : c2 ≤ maxLen) (hreach : c2 ≤ 140737488351232)
    (hs : Lies w w.heap.size A0 c0 (cellsOf s)) (hl : Grid w w.heap.size A1 c1 ls) (hb : Lies w w.heap.size A2 c2 (cellsOf b)) (yb : Byt b) :
    Calls Try.prog 4 #[.slice A0 s.length c0, .slice A1 ls.length c1, .slice A2 b.length c2, .int .i64 p] w fun e w' => e = .returned (.bool true) ∧ Below w.heap.size w w' := by
  have HS := Lib.hid hs
  have HL := Lib.hid hl
  have HB := Lib.hid hb
  have HY := Lib.hid yb
  clear hs hl hb yb
  obtain ⟨i0, hi, hz0, hz1, hz2⟩ := info_parts info5
  go_enter Try.func4, Try.ntmps4
  go_wp2_with fail
  refine (head_true _).mono ?_
  rintro e w1 ⟨rfl, bw1⟩
  have ho0 := own_empty w1
  have hal := (Below.refl w1.heap.size w1).alloc (Nat.le_refl _) (.cells #[] 5)
  have hzal := hal.size
  have lb0 := ((HB.out.below bw1).more bw1.size).below hal
  go_wp2_with (at_builtin; refine wpList_append_lies rfl (.tmp 33) (.tmp 34) 22 rfl w1.heap.size 5 i0 (.int .u8 0) 1 Try.underlying22 hi hz0 hz1 hz2 rfl _ _ _ rfl ho0 _ A2 b.length c2 (cellsOf b) rfl (by simp) lb0 (bytes_oneCell _) (by unfold maxLen; omega) (by omega) hzal ?_; intro v2 w2 ho2 hg2)
  have hB2 : Below w1.heap.size w1 w2 := hal.grown hg2 hzal (fun k hk => (ho0.lt k hk).1)
  have hown := own_eq ho2 (m := b.length) (ys := cellsOf b) (by omega) (by simp)
  obtain ⟨Ao, co, hv2, n1, n2, n3⟩ := own_lies hown
  subst hv2
  have bw2 := bw1.trans (hB2.mono bw1.size)
  have HOWN := Lib.hid hown
  have HLO := Lib.hid n3
  clear ho0 hal hzal lb0 ho2 hg2 hown n3 hB2 hi hz0 hz1 hz2
  refine (putBytesB A0 c0 s _ hs1 hs2 ((HS.out.below bw2).more bw2.size)).mono ?_
  rintro e w3 ⟨va, rfl, oa, e3⟩
  have bw3 := bw2.trans (e3.mono bw2.size)
  have u3 : Below w2.heap.size w2 w3 := e3
  have OA := Lib.hid oa
  clear oa
  go_wp2_with fail
  refine (refPutBytesB A0 c0 s _ ((HS.out.below bw3).more bw3.size)).mono ?_
  rintro e w4 ⟨vc, rfl, oc, e4⟩
  have bw4 := bw3.trans (e4.mono bw3.size)
  have u4 := u3.trans (e4.mono u3.size)
  have OC := Lib.hid (own_mono oc u3.size)
  have OA := Lib.hid (own_below OA.out e4 (Nat.le_refl _))
  clear oc
  go_wp2_with fail
  refine (putRowB A1 c1 ls _ hl1 hl2 ((HL.out.below bw4).more bw4.size)).mono ?_
  rintro e w5 ⟨vd, rfl, od, e5⟩
  have bw5 := bw4.trans (e5.mono bw4.size)
  have u5 := u4.trans (e5.mono u4.size)
  have OD := Lib.hid (own_mono od u4.size)
  have OA := Lib.hid (own_below OA.out e5 (Nat.le_refl _))
  have OC := Lib.hid (own_below OC.out e5 (Nat.le_refl _))
  clear od
  go_wp2_with fail
  refine (refPutRowB A1 c1 ls _ ((HL.out.below bw5).more bw5.size)).mono ?_
  rintro e w6 ⟨vi, rfl, oi, e6⟩
  have bw6 := bw5.trans (e6.mono bw5.size)
  have u6 := u5.trans (e6.mono u5.size)
  have OI := Lib.hid (own_mono oi u5.size)
  have OA := Lib.hid (own_below OA.out e6 (Nat.le_refl _))
  have OC := Lib.hid (own_below OC.out e6 (Nat.le_refl _))
  have OD := Lib.hid (own_below OD.out e6 (Nat.le_refl _))
  clear oi
  go_wp2_with fail
  refine (bytesB_ Ao b co p _ n1 n2 hp1 hp2 ((HLO.out.below u6).more u6.size) HY.out).mono ?_
  rintro e w7 ⟨vt, rfl, ot, e7⟩
  have bw7 := bw6.trans (e7.mono bw6.size)
  have u7 := u6.trans (e7.mono u6.size)
  have OT := Lib.hid (own_mono ot u6.size)
  have OA := Lib.hid (own_below OA.out e7 (Nat.le_refl _))
  have OC := Lib.hid (own_below OC.out e7 (Nat.le_refl _))
  have OD := Lib.hid (own_below OD.out e7 (Nat.le_refl _))
  have OI := Lib.hid (own_below OI.out e7 (Nat.le_refl _))
  clear ot
  go_wp2_with fail
  refine (refBytesB A2 b c2 p _ hb1 hb2 ((HB.out.below bw7).more bw7.size) HY.out).mono ?_
  rintro e w8 ⟨vu, rfl, ou, e8⟩
  have bw8 := bw7.trans (e8.mono bw7.size)
  have u8 := u7.trans (e8.mono u7.size)
  have OU := Lib.hid (own_mono ou u7.size)
  have OA := Lib.hid (own_below OA.out e8 (Nat.le_refl _))
  have OC := Lib.hid (own_below OC.out e8 (Nat.le_refl _))
  have OD := Lib.hid (own_below OD.out e8 (Nat.le_refl _))
  have OI := Lib.hid (own_below OI.out e8 (Nat.le_refl _))
  have OT := Lib.hid (own_below OT.out e8 (Nat.le_refl _))
  clear ou
  go_wp2_with fail
  refine (rowB_ Ao b co p _ n1 n2 hp1 hp2 ((HLO.out.below u8).more u8.size) HY.out).mono ?_
  rintro e w9 ⟨vx, rfl, ox, e9⟩
  have bw9 := bw8.trans (e9.mono bw8.size)
  have u9 := u8.trans (e9.mono u8.size)
  have OX := Lib.hid (ox.mono u8.size)
  have OA := Lib.hid (own_below OA.out e9 (Nat.le_refl _))
  have OC := Lib.hid (own_below OC.out e9 (Nat.le_refl _))
  have OD := Lib.hid (own_below OD.out e9 (Nat.le_refl _))
  have OI := Lib.hid (own_below OI.out e9 (Nat.le_refl _))
  have OT := Lib.hid (own_below OT.out e9 (Nat.le_refl _))
  have OU := Lib.hid (own_below OU.out e9 (Nat.le_refl _))
  clear ox
  go_wp2_with fail
  refine (refRowB A2 b c2 p _ hb1 hb2 ((HB.out.below bw9).more bw9.size) HY.out).mono ?_
  rintro e w10 ⟨vy, rfl, oy, e10⟩
  have bw10 := bw9.trans (e10.mono bw9.size)
  have u10 := u9.trans (e10.mono u9.size)
  have OY := Lib.hid (oy.mono u9.size)
  have OA := Lib.hid (own_below OA.out e10 (Nat.le_refl _))
  have OC := Lib.hid (own_below OC.out e10 (Nat.le_refl _))
  have OD := Lib.hid (own_below OD.out e10 (Nat.le_refl _))
  have OI := Lib.hid (own_below OI.out e10 (Nat.le_refl _))
  have OT := Lib.hid (own_below OT.out e10 (Nat.le_refl _))
  have OU := Lib.hid (own_below OU.out e10 (Nat.le_refl _))
  have OX := Lib.hid (OX.out.below e10 (Nat.le_refl _))
  have hst : TouchRel w10 w1.heap.size Ao co b 0 w10 := ⟨cellsOf b, own_below HOWN.out u10 (Nat.le_refl _), World.grownBy.refl _ _, fun j x _ hx => by simp [hx]⟩
  have HLT : Hid (∀ g, Value.ownBlock (.slice Ao b.length co) = some g → g < w2.heap.size) := fun g hg => (HOWN.out.lt g hg).2
  have HBW := Lib.hid bw10
  have HW1 := Lib.hid bw1.size
  clear oy e3 e4 e5 e6 e7 e8 e9 e10 bw1 bw2 bw3 bw4 bw5 bw6 bw7 bw8 bw9 bw10 u3 u4 u5 u6 u7 u8 u9 u10
  generalize pbE s = E1 at *
  generalize prE ls = E2 at *
  generalize byT b p = T3 at *
  generalize bytesE b p = E3 at *
  generalize roT b p = T4 at *
  generalize rowE b p = E4 at *
  have hbl : b.length ≤ 140737488351232 := by omega
  go_wp2
  go_loopw [31] (fun i wr => ∃ k : Nat, k ≤ b.length ∧ i = .int .i64 k ∧ TouchRel w10 w1.heap.size Ao co b k wr) (fun i _ => b.length - (intOf i).toNat)
  case atStart => exact ⟨0, Nat.zero_le _, rfl, hst⟩
  case round =>
    clear hst
    obtain ⟨k, hk, rfl, hR⟩ := hrel
    by_cases hkl : k < b.length
    · obtain ⟨xs, r1, r2, r3⟩ := hR
      obtain ⟨g, rfl, hg⟩ := own_addr r1 (by omega)
      obtain ⟨x, hx⟩ : ∃ x, b[k]? = some x := ⟨_, List.getElem?_eq_getElem hkl⟩
      have hcell : wr.cell? ⟨g, k, none⟩ = some (.int .u8 x) := by rw [r1.cellAt k (by omega)]; exact r3 k x (Nat.le_refl _) hx
      have hfz := r1.frozenAt k
      have HR : Hid (TouchRel w10 w1.heap.size (some ⟨g, 0, none⟩) co b k wr) := ⟨xs, r1, r2, r3⟩
      clear r1 r2 r3 hx
      go_wp2
      go_roundw
      case rel => exact ⟨k + 1, by omega, by go_num, HR.out.step _⟩
      case measure => simp [intOf]; omega
    · obtain ⟨xs, r1, r2, r3⟩ := hR
      have F1 := own_kept' OA.out r2 HLT.out
      have F2 := own_kept' OC.out r2 HLT.out
      have F3 := own_kept' OD.out r2 HLT.out
      have F4 := own_kept' OI.out r2 HLT.out
      have F5 := own_kept' OT.out r2 HLT.out
      have F6 := own_kept' OU.out r2 HLT.out
      have F7 := grid_kept' OX.out r2 HLT.out
      have F8 := grid_kept' OY.out r2 HLT.out
      have hbw : Below w.heap.size w wr := HBW.out.grown r2 HBW.out.size (fun g hg => by have h1 := (r1.lt g hg).1; have h2 := HW1.out; omega)
      have q1 := own_str F1
      have q2 := own_str F2
      have q3 := own_str F3
      have q4 := own_str F4
      have q5 := own_str F5
      have q6 := own_str F6
      generalize strOfNums (pbL s) = S1 at *
      generalize strOfNums (prL ls) = S2 at *
      generalize strOfNums (byL b p) = S3 at *
      obtain ⟨A8, c8, hx8, x1, x2, x3⟩ := F7.grid
      obtain ⟨A9, c9, hx9, x4, x5, x6⟩ := F8.grid
      subst hx8 hx9
      have HS7 := Lib.hid (same_true A8 A9 c8 c9 (roL b p) wr x1 x2 x3 x6)
      clear F1 F2 F3 F4 F5 F6 F7 F8 r1 r2 r3 x3 x6
      generalize (roL b p).length = n8 at *
      go_wp2_with fail
      refine HS7.out.mono ?_
      rintro e w11 ⟨rfl, hb11⟩
      have hfin := hbw.trans (hb11.mono hbw.size)
      clear q1 q2 q3 q4 q5 q6 HS7
      go_wp2
      go_ret
      exact ⟨rfl, hfin⟩
end Go.Proofs.Ytjkdlchfmgefjaa
