/- The walk of WireBack: it returns true, and nothing that was there has changed. Conditions: none beyond what its arguments are. -/
import Derived.Test.YtjkdlchfmgefjaaM
namespace Go.Proofs.Ytjkdlchfmgefjaa
open Go.RowKit

theorem grown_below {base : Nat} {w0 w w' : World} {v : Value} {n : Nat} {xs : List Value} (hB : Below base w0 w) (ho : w.ownsRow base 5 1 v n xs) (hg : w.grownBy w' v.ownBlock) (hbase : base ≤ w.heap.size) : Below base w0 w' :=
  hB.grown hg hbase (fun k hk => (ho.lt k hk).1)
theorem own_cast {w : World} {base : Nat} {v : Value} {n m : Nat} {xs ys : List Value} (h : w.ownsRow base 5 1 v n xs) (hn : n = m) (hx : xs = ys) : w.ownsRow base 5 1 v m ys := by
  subst hn hx
  exact h

set_option maxRecDepth 100000 in
set_option maxHeartbeats 4000000 in
theorem back_walk (A0 A3 A4 A5 : Option Addr) (c0 c3 c4 c5 : Nat) (n : Int) (b : Bool) (ahead s behind : List Int) (ls : List (List Int)) (w : World)
    (hn1 : -9223372036854775808 ≤ n) (hn2 : n ≤ 9223372036854775807) (ha1 : ahead.length ≤ c0) (ha2 : c0 ≤ maxLen) (hs1 : s.length ≤ c3) (hs2 : c3 ≤ maxLen) (hl1 : ls.length ≤ c4) (hl2 : c4 ≤ maxLen) (hb1 : behind.length ≤ c5) (hb2 : c5 ≤ maxLen)
    (ha : Lies w w.heap.size A0 c0 (cellsOf ahead)) (hs : Lies w w.heap.size A3 c3 (cellsOf s)) (hl : Grid w w.heap.size A4 c4 ls) (hbe : Lies w w.heap.size A5 c5 (cellsOf behind))
    (ya : Byt ahead) (ys : Byt s) (yl : ∀ l ∈ ls, Byt l) (yb : Byt behind) :
    Calls Try.prog 5 #[.slice A0 ahead.length c0, .int .i64 n, .bool b, .slice A3 s.length c3, .slice A4 ls.length c4, .slice A5 behind.length c5] w fun e w' => e = .returned (.bool true) ∧ Below w.heap.size w w' := by
  have HA := Lib.hid ha
  have HS := Lib.hid hs
  have HL := Lib.hid hl
  have HE := Lib.hid hbe
  have HY := Lib.hid (back_byt (n := n) (b := b) ya ys yl yb)
  clear ha hs hl hbe ya ys yl yb
  have hsm : s.length ≤ maxLen := by omega
  have hlm : ls.length ≤ maxLen := by omega
  have ham : ahead.length ≤ 9223372036854775807 := by unfold maxLen at ha2; omega
  have hbm : behind.length ≤ 9223372036854775807 := by unfold maxLen at hb2; omega
  clear ha1 ha2 hb1 hb2
  obtain ⟨i0, hi, hz0, hz1, hz2⟩ := info_parts info5
  go_enter Try.func5, Try.ntmps5
  go_wp2_with fail
  refine (head_true _).mono ?_
  rintro e w1 ⟨rfl, hb1⟩
  have hz := hb1.size
  go_wp2_with fail
  by_cases hlen : s.length ≤ 65536
  · refine (putBytes A3 c3 s _ ((HS.out.below hb1).more hz) hlen).mono ?_
    rintro e w2 ⟨A6, c6, rfl, _, _, t6, hb2⟩
    have hb := hb1.trans (hb2.mono hz)
    have T6 := Lib.hid t6
    clear hb1 hb2 hz t6
    have hz := hb.size
    go_wp2_with fail
    have hg := (HL.out.below hb).more hz
    rcases Nat.lt_or_ge 1024 ls.length with hlong | hshort
    · refine (putRow_long A4 ls.length c4 _ hlm hlong).mono ?_
      rintro e w3 ⟨rfl, rfl⟩
      go_wp2
      go_ret
      exact ⟨rfl, hb⟩
    · rcases bad_or_good ls with hbad | hgood
      · refine (putRow_bad A4 c4 ls _ hg hshort hbad).mono ?_
        rintro e w3 ⟨rfl, rfl⟩
        go_wp2
        go_ret
        exact ⟨rfl, hb⟩
      · have HO := Lib.hid hgood
        refine (putRow A4 c4 ls _ hg hshort hgood).mono ?_
        clear hgood hg
        rintro e w3 ⟨A7, c7, rfl, r1, r2, t7, hb3⟩
        have T7 := Lib.hid t7
        have T6' := Lib.hid ((T6.out.below hb3).more hb3.size)
        have hb' := hb.trans (hb3.mono hz)
        clear t7 T6 hb hz hb3
        have hz := hb'.size
        by_cases hbig : ahead.length ≤ 100000 ∧ behind.length ≤ 100000 ∧ (rowBytes ls).length ≤ 1000000
        · obtain ⟨g1, g2, g3⟩ := hbig
          have la := (HA.out.below hb').more hz
          have lb := (HE.out.below hb').more hz
          have ho0 := own_empty w3
          have hal := (Below.refl w3.heap.size w3).alloc (Nat.le_refl _) (.cells #[] 5)
          have la0 := la.below hal
          have HLB := Lib.hid lb
          clear la lb
          go_wp2_with (at_builtin; refine wpList_append_lies rfl (.tmp 57) (.tmp 58) 22 rfl w3.heap.size 5 i0 (.int .u8 0) 1 Try.underlying22 hi hz0 hz1 hz2 rfl _ 0 [] rfl ho0 w3.heap.size A0 ahead.length c0 (cellsOf ahead) rfl (by simp) la0 (bytes_oneCell ahead) (by unfold maxLen; omega) (by omega) (by simp) ?_; intro v4 w4 ho4 hg4)
          have hB4 : Below w3.heap.size w3 w4 := hal.grown hg4 (by simp) (fun k hk => (ho0.lt k hk).1)
          clear ho0 la0 hg4 hal
          refine (putNum n _).mono ?_
          rintro e w5 ⟨A8, c8, rfl, _, _, l8, hb5⟩
          have ho5 := own_below ho4 hb5 (Nat.le_refl _)
          have hB5 := hB4.trans (hb5.mono hB4.size)
          have hz5 := hB5.size
          clear ho4 hB4 hb5
          go_wp2_with (at_builtin; refine wpList_append_lies rfl (.tmp 59) (.tmp 61) 22 rfl w3.heap.size 5 i0 (.int .u8 0) 1 Try.underlying22 hi hz0 hz1 hz2 rfl _ _ _ rfl ho5 w5.heap.size A8 8 c8 (cellsOf (be n 7 8)) rfl (by simp [be_length]) l8 (bytes_oneCell _) (by unfold maxLen; omega) (by omega) (by omega) ?_; intro v6 w6 ho6 hg6)
          have hB6 : Below w3.heap.size w3 w6 := hB5.grown hg6 hz5 (fun k hk => (ho5.lt k hk).1)
          clear ho5 hg6 l8 hB5 hz5
          refine (putBool b _).mono ?_
          rintro e w7 ⟨A9, c9, rfl, _, _, l9, hb7⟩
          have ho7 := own_below ho6 hb7 (Nat.le_refl _)
          have hB7 := hB6.trans (hb7.mono hB6.size)
          have hz7 := hB7.size
          clear ho6 hB6 hb7
          go_wp2_with (first
            | (at_builtin; refine wpList_append_lies rfl (.tmp 63) (.tmp 65) 22 rfl w3.heap.size 5 i0 (.int .u8 0) 1 Try.underlying22 hi hz0 hz1 hz2 rfl _ _ _ rfl ho7 _ A9 1 c9 (cellsOf [if b then 1 else 0]) rfl (by simp) l9 (bytes_oneCell _) (by unfold maxLen; omega) (by omega) hz7 ?_; intro v8 w8 ho8 hg8; have hB8 := grown_below hB7 ho7 hg8 hz7; have hz8 := hB8.size; have l10 := T6'.out.below hB8; clear ho7 hg8 hB7 hz7 l9)
            | (at_builtin; refine wpList_append_lies rfl (.tmp 66) (.tmp 67) 22 rfl w3.heap.size 5 i0 (.int .u8 0) 1 Try.underlying22 hi hz0 hz1 hz2 rfl _ _ _ rfl ho8 _ A6 (4 + s.length) c6 (cellsOf (be s.length 3 4 ++ s)) rfl (by simp [be_length]) l10 (bytes_oneCell _) (by unfold maxLen; omega) (by omega) hz8 ?_; intro v9 w9 ho9 hg9; have hB9 := grown_below hB8 ho8 hg9 hz8; have hz9 := hB9.size; have l11 := T7.out.below hB9; clear ho8 hg9 hB8 hz8 l10)
            | (at_builtin; refine wpList_append_lies rfl (.tmp 68) (.tmp 69) 22 rfl w3.heap.size 5 i0 (.int .u8 0) 1 Try.underlying22 hi hz0 hz1 hz2 rfl _ _ _ rfl ho9 _ A7 (rowBytes ls).length c7 (cellsOf (rowBytes ls)) rfl (by simp) l11 (bytes_oneCell _) (by unfold maxLen; omega) (by omega) hz9 ?_; intro v10 w10 ho10 hg10; have hB10 := grown_below hB9 ho9 hg10 hz9; have hz10 := hB10.size; have l12 := HLB.out.below hB10; clear ho9 hg10 hB9 hz9 l11)
            | (at_builtin; refine wpList_append_lies rfl (.tmp 70) (.tmp 71) 22 rfl w3.heap.size 5 i0 (.int .u8 0) 1 Try.underlying22 hi hz0 hz1 hz2 rfl _ _ _ rfl ho10 _ A5 behind.length c5 (cellsOf behind) rfl (by simp) l12 (bytes_oneCell _) (by unfold maxLen; omega) (by omega) hz10 ?_; intro v11 w11 ho11 hg11; have hB11 := grown_below hB10 ho10 hg11 hz10; have hz11 := hB11.size; clear ho10 hg11 hB10 hz10 l12))
          obtain ⟨f1, f2, f3, f4, f5⟩ := back_facts ahead n b s ls behind hn1 hn2 hlen hshort HO.out (p0 := ahead.length) (p1 := ahead.length + 8) (p2 := ahead.length + 8 + 1) (p3 := ahead.length + 8 + 1 + 4 + s.length) rfl rfl rfl rfl
          have hown := own_cast ho11 (m := (backL ahead n b s ls behind).length) (ys := cellsOf (backL ahead n b s ls behind)) (by omega) (by simp [backL, cellsOf])
          clear ho11
          have k1 : (backL ahead n b s ls behind).length ≤ ahead.length + 8 + 1 + 4 + s.length + (rowBytes ls).length + behind.length := by omega
          have k2 : ahead.length + 8 + 1 + 4 + s.length + (rowBytes ls).length + behind.length ≤ (backL ahead n b s ls behind).length := by omega
          have F1 := Lib.hid f1
          have F2 := Lib.hid f2
          have F3 := Lib.hid f3
          have F4 := Lib.hid f4
          clear f1 f2 f3 f4 f5
          generalize backL ahead n b s ls behind = L at *
          obtain ⟨A10, c10, rfl, m1, m2, m3⟩ := own_lies hown
          have hfin : Below w.heap.size w w11 := hb'.trans (hB11.mono hz)
          have HM := Lib.hid m3
          clear hown m3 hB11 hz11
          refine (num A10 L c10 _ _ _ m1 m2 (by omega) (by omega) HM.out HY.out).mono ?_
          rintro e w12 ⟨rfl, rfl⟩
          rw [F1.out.1, F1.out.2.1, F1.out.2.2]
          go_wp2_with fail
          refine (bool_ A10 L c10 _ _ _ m1 m2 (by omega) (by omega) HM.out HY.out).mono ?_
          rintro e w12 ⟨rfl, rfl⟩
          rw [F2.out.1, F2.out.2.1, F2.out.2.2]
          have hbb : (b != b) = false := by cases b <;> rfl
          go_wp2_with fail
          refine (bytes_ok A10 L c10 _ _ m1 m2 (by omega) (by omega) HM.out HY.out F3.out.2.1).mono ?_
          rintro e w12 ⟨A11, c11, rfl, u1, u2, u3, hb12⟩
          rw [F3.out.1] at u1 ⊢
          rw [F3.out.2.2.1] at u3
          rw [F3.out.2.2.2]
          have hfin2 := hfin.trans (hb12.mono hfin.size)
          have q1 := run_string_lies (P := Try.prog) w12 22 9 5 Try.underlying22 Try.underlying5 Try.underlying9 w12.heap.size A11 s.length c11 s rfl u3
          have q2 := run_string_lies (P := Try.prog) w12 22 9 5 Try.underlying22 Try.underlying5 Try.underlying9 w.heap.size A3 s.length c3 s rfl (HS.out.below hfin2)
          have HM2 := Lib.hid ((HM.out.below hb12).more hb12.size)
          have HG2 := Lib.hid ((HL.out.below hfin2).more hfin2.size)
          generalize strOfNums s = S at *
          clear u3 hb12
          go_wp2_with fail
          clear q1 q2
          refine (row_ok A10 L c10 _ _ m1 m2 (by omega) (by omega) HM2.out HY.out F4.out.2.1).mono ?_
          rintro e w13 ⟨A12, c12, rfl, x1, x2, x3, hb13⟩
          rw [F4.out.1] at x1 x3 ⊢
          rw [F4.out.2.2.1] at x3
          rw [F4.out.2.2.2]
          have hfin3 := hfin2.trans (hb13.mono hfin2.size)
          have HX := Lib.hid x3
          have HG3 := Lib.hid ((HG2.out.below hb13).more hb13.size)
          clear x3 hb13 hfin hfin2
          go_wp2_with fail
          refine (same_true A12 A4 c12 c4 ls _ x1 x2 HX.out HG3.out).mono ?_
          rintro e w14 ⟨rfl, hb14⟩
          have hfin4 := hfin3.trans (hb14.mono hfin3.size)
          clear hfin3 hb14
          have hq : (((ahead.length : Int) + 8 + 1 + 4 + (s.length : Int) + ((rowBytes ls).length : Int)) == ((L.length : Int) - (behind.length : Int))) = true := by rw [beq_iff_eq]; omega
          go_wp2
          go_ret
          exact ⟨rfl, hfin4⟩
        · by_cases g1 : ahead.length ≤ 100000
          · by_cases g2 : behind.length ≤ 100000
            · have g3 : 1000000 < (rowBytes ls).length := by omega
              unfold maxLen at r2
              go_wp2
              go_ret
              exact ⟨rfl, hb'⟩
            · go_wp2
              go_ret
              exact ⟨rfl, hb'⟩
          · go_wp2
            go_ret
            exact ⟨rfl, hb'⟩
  · refine (putBytes_long A3 s.length c3 _ hsm (by omega)).mono ?_
    rintro e w2 ⟨rfl, rfl⟩
    have hg := (HL.out.below hb1).more hz
    go_wp2_with fail
    rcases Nat.lt_or_ge 1024 ls.length with hlong | hshort
    · refine (putRow_long A4 ls.length c4 _ hlm hlong).mono ?_
      rintro e w3 ⟨rfl, rfl⟩
      go_wp2
      go_ret
      exact ⟨rfl, hb1⟩
    · rcases bad_or_good ls with hbad | hgood
      · refine (putRow_bad A4 c4 ls _ hg hshort hbad).mono ?_
        rintro e w3 ⟨rfl, rfl⟩
        go_wp2
        go_ret
        exact ⟨rfl, hb1⟩
      · refine (putRow A4 c4 ls _ hg hshort hgood).mono ?_
        rintro e w3 ⟨A7, c7, rfl, _, _, _, hb3⟩
        have hb' := hb1.trans (hb3.mono hz)
        clear hgood hg
        go_wp2
        go_ret
        exact ⟨rfl, hb'⟩
end Go.Proofs.Ytjkdlchfmgefjaa
