/- The walk of WireOrder: it returns true, and nothing that was there has changed. Conditions: none beyond what its arguments are. -/
import Derived.Test.YtjkdlchfmgefjaaS
import Derived.Test.YtjkdlchfmgefjaaR
import Derived.Test.YtjkdlchfmgefjaaN
namespace Go.Proofs.Ytjkdlchfmgefjaa
open Go.RowKit

/-- what reading a byte string returns, found or not, with its error -/
def BytesBoth (w : World) (l : List Int) (p : Int) (e : Ending) (w' : World) : Prop :=
  ∃ A' m c' T E, e = .returned (.tuple #[.slice A' m c', .int .i64 T, .int .i64 E]) ∧ E = bytesE l p ∧ m ≤ c' ∧ c' ≤ maxLen ∧ (E = 0 → T = bytesB l p ∧ m = cnt l p ∧ Lies w' w'.heap.size A' c' (cellsOf (bytesA l p))) ∧ Below w.heap.size w w'
theorem bytes_both (A : Option Addr) (l : List Int) (n c : Nat) (p : Int) (w : World) (hn : l.length = n) (hc : n ≤ c) (hcm : c ≤ maxLen) (hp1 : -9223372036854775808 ≤ p) (hp2 : p ≤ 9223372036854775807) (hl : Lies w w.heap.size A c (cellsOf l)) (hby : Byt l) :
    Calls Try.prog 23 #[.slice A n c, .int .i64 p] w (BytesBoth w l p) := by
  subst hn
  by_cases h : bytesE l p = 0
  · exact (bytes_ok A l c p w hc hcm hp1 hp2 hl hby h).mono fun e w' ⟨A', c', he, h1, h2, h3, h4⟩ => ⟨A', _, c', _, _, he, h.symm, h1, h2, fun _ => ⟨rfl, rfl, h3⟩, h4⟩
  · refine (bytes_err A l c p w _ hc hcm hp1 hp2 hl hby h).mono fun e w' ⟨he, hw⟩ => ?_
    subst hw
    exact ⟨_, _, _, _, _, he, rfl, Nat.le_refl _, Nat.zero_le _, fun h0 => absurd h0 h, Below.refl _ _⟩
/-- what reading a row returns, found or not, with its error -/
def RowBoth (w : World) (l : List Int) (p : Int) (e : Ending) (w' : World) : Prop :=
  ∃ A' m c' T E, e = .returned (.tuple #[.slice A' m c', .int .i64 T, .int .i64 E]) ∧ E = rowE l p ∧ m ≤ c' ∧ c' ≤ maxLen ∧
    (E = 0 → T = offs l (p + 4) (cnt l p) ∧ m = (items l (p + 4) (cnt l p)).length ∧ Grid w' w'.heap.size A' c' (items l (p + 4) (cnt l p))) ∧ Below w.heap.size w w'
theorem row_both (A : Option Addr) (l : List Int) (n c : Nat) (p : Int) (w : World) (hn : l.length = n) (hc : n ≤ c) (hcm : c ≤ maxLen) (hp1 : -9223372036854775808 ≤ p) (hp2 : p ≤ 9223372036854775807) (hl : Lies w w.heap.size A c (cellsOf l)) (hby : Byt l) :
    Calls Try.prog 25 #[.slice A n c, .int .i64 p] w (RowBoth w l p) := by
  subst hn
  by_cases h : rowE l p = 0
  · exact (row_ok A l c p w hc hcm hp1 hp2 hl hby h).mono fun e w' ⟨A', c', he, h1, h2, h3, h4⟩ => ⟨A', _, c', _, _, he, h.symm, h1, h2, fun _ => ⟨rfl, (items_length _ _ _).symm, h3⟩, h4⟩
  · exact (row_err A l c p w hc hcm hp1 hp2 hl hby h).mono fun e w' ⟨he, hw⟩ => ⟨_, _, _, _, _, he, rfl, Nat.le_refl _, Nat.zero_le _, fun h0 => absurd h0 h, hw⟩
theorem same_n (A1 A2 : Option Addr) (c1 c2 n1 n2 : Nat) (ls : List (List Int)) (w : World) (h1 : n1 = ls.length) (h2 : n2 = ls.length) (hl1 : n1 ≤ c1) (hc1 : c1 ≤ maxLen) (hg1 : Grid w w.heap.size A1 c1 ls) (hg2 : Grid w w.heap.size A2 c2 ls) :
    Calls Try.prog 27 #[.slice A1 n1 c1, .slice A2 n2 c2] w fun e w' => e = .returned (.bool true) ∧ Below w.heap.size w w' := by
  subst h1 h2
  exact same_true A1 A2 c1 c2 ls w hl1 hc1 hg1 hg2

set_option maxRecDepth 100000 in
set_option maxHeartbeats 2000000 in
theorem order_walk (a b : Int) (A2 A3 : Option Addr) (c2 c3 : Nat) (x behind : List Int) (w : World) (ha1 : -9223372036854775808 ≤ a) (ha2 : a ≤ 9223372036854775807) (hb1 : -9223372036854775808 ≤ b) (hb2 : b ≤ 9223372036854775807)
    (hx1 : x.length ≤ c2) (hx2 : c2 ≤ maxLen) (hh1 : behind.length ≤ c3) (hh2 : c3 ≤ maxLen) (hx : Lies w w.heap.size A2 c2 (cellsOf x)) (hh : Lies w w.heap.size A3 c3 (cellsOf behind)) (yx : Byt x) (yh : Byt behind) :
    Calls Try.prog 9 #[.int .i64 a, .int .i64 b, .slice A2 x.length c2, .slice A3 behind.length c3] w fun e w' => e = .returned (.bool true) ∧ Below w.heap.size w w' := by
  have HX := Lib.hid hx
  have HH := Lib.hid hh
  have HYX := Lib.hid yx
  have HYY := Lib.hid (yx.append yh)
  clear hx hh yx yh
  have hxm : x.length ≤ 9223372036854775807 := by unfold maxLen at hx2; omega
  have hhm : behind.length ≤ 9223372036854775807 := by unfold maxLen at hh2; omega
  obtain ⟨i0, hi, hz0, hz1, hz2⟩ := info_parts info5
  go_enter Try.func9, Try.ntmps9
  go_wp2_with fail
  refine (head_true _).mono ?_
  rintro e w1 ⟨rfl, hb1'⟩
  have hs1 := hb1'.size
  go_upto_region 2 with fail
  go_cut [40] (fun s wx => s = .bool false ∧ Below w.heap.size w wx)
  case first =>
    by_cases hab : 0 ≤ a ∧ 0 ≤ b
    · obtain ⟨ha0, hb0⟩ := hab
      have hless := less_be ha0 ha2 hb0 hb2
      have ka := putNumS a
      have kb := putNumS b
      generalize strOfNums (be a 7 8) = Sa at *
      generalize strOfNums (be b 7 8) = Sb at *
      have KA := Lib.hid ka
      have KB := Lib.hid kb
      have hda : decide (0 ≤ a) = true := by simpa using ha0
      have hdb : decide (0 ≤ b) = true := by simpa using hb0
      clear ka kb
      generalize hd : decide (a < b) = t at *
      refine wp_region_held_drew (S := fun w' => Below w1.heap.size w1 w') (by kernel_rfl) ?_ (fun hHeld => ?_)
      · exact (Below.refl _ _).drew
      refine wpAnyH_take (i := 0) (v := ?vc0) rfl (by kernel_rfl) (by kernel_rfl) (by kernel_rfl) (fun _ _ _ h => h) (Or.inl ⟨by kernel_rfl, ?yc0⟩) (by assumption) ?rc0
      case yc0 => (intro w hSw; (try dsimp only at hSw); go_simp; (try with_reducible rfl))
      try simp only [Act.put, List.getElem_toArray, List.getElem_cons_zero, List.getElem_cons_succ, List.setIfInBounds_toArray, List.set_cons_zero, List.set_cons_succ]
      refine wpAnyH_take (i := 1) (v := ?vc1) rfl (by kernel_rfl) (by kernel_rfl) (by kernel_rfl) (fun _ _ _ h => h) (Or.inl ⟨by kernel_rfl, ?yc1⟩) (by assumption) ?rc1
      case yc1 => (intro w hSw; (try dsimp only at hSw); go_simp; (try with_reducible rfl))
      try simp only [Act.put, List.getElem_toArray, List.getElem_cons_zero, List.getElem_cons_succ, List.setIfInBounds_toArray, List.set_cons_zero, List.set_cons_succ]
      refine wpAnyH_take (i := 2) (v := ?vc2) rfl (by kernel_rfl) (by kernel_rfl) (by kernel_rfl) (fun _ _ _ h => h) (Or.inl ⟨by kernel_rfl, ?yc2⟩) (by assumption) ?rc2
      case yc2 => (intro w hSw; (try dsimp only at hSw); go_simp; (try with_reducible rfl))
      try simp only [Act.put, List.getElem_toArray, List.getElem_cons_zero, List.getElem_cons_succ, List.setIfInBounds_toArray, List.set_cons_zero, List.set_cons_succ]
      refine wpAnyH_take (i := 3) (v := ?vc3) rfl (by kernel_rfl) (by kernel_rfl) (by kernel_rfl) (fun _ _ _ h => h) (Or.inl ⟨by kernel_rfl, ?yc3⟩) (by assumption) ?rc3
      case yc3 => (intro w hSw; (try dsimp only at hSw); go_simp; (try with_reducible rfl))
      try simp only [Act.put, List.getElem_toArray, List.getElem_cons_zero, List.getElem_cons_succ, List.setIfInBounds_toArray, List.set_cons_zero, List.set_cons_succ]
      refine wpAnyH_take (i := 4) (v := ?vc4) rfl (by kernel_rfl) (by kernel_rfl) (by kernel_rfl) (fun _ _ _ h => h) (Or.inl ⟨by kernel_rfl, ?yc4⟩) (by assumption) ?rc4
      case yc4 => (intro w hSw; (try dsimp only at hSw); go_simp; (try with_reducible rfl))
      try simp only [Act.put, List.getElem_toArray, List.getElem_cons_zero, List.getElem_cons_succ, List.setIfInBounds_toArray, List.set_cons_zero, List.set_cons_succ]
      refine wpAnyH_take (i := 5) (v := ?vc5) rfl (by kernel_rfl) (by kernel_rfl) (by kernel_rfl) (fun _ _ _ h => h) (Or.inl ⟨by kernel_rfl, ?yc5⟩) (by assumption) ?rc5
      case yc5 => (intro w hSw; (try dsimp only at hSw); go_simp; (try with_reducible rfl))
      try simp only [Act.put, List.getElem_toArray, List.getElem_cons_zero, List.getElem_cons_succ, List.setIfInBounds_toArray, List.set_cons_zero, List.set_cons_succ]
      refine wpAnyH_take (i := 6) (v := ?vc6) rfl (by kernel_rfl) (by kernel_rfl) (by kernel_rfl) (fun _ _ _ h => h) (Or.inl ⟨by kernel_rfl, ?yc6⟩) (by assumption) ?rc6
      case yc6 => (intro w hSw; (try dsimp only at hSw); go_simp; (try with_reducible rfl))
      try simp only [Act.put, List.getElem_toArray, List.getElem_cons_zero, List.getElem_cons_succ, List.setIfInBounds_toArray, List.set_cons_zero, List.set_cons_succ]
      refine wpAnyH_take (i := 7) (v := ?vc7) rfl (by kernel_rfl) (by kernel_rfl) (by kernel_rfl) (fun _ _ _ h => h) (Or.inl ⟨by kernel_rfl, ?yc7⟩) (by assumption) ?rc7
      case yc7 => (intro w hSw; (try dsimp only at hSw); go_simp; (try with_reducible rfl))
      try simp only [Act.put, List.getElem_toArray, List.getElem_cons_zero, List.getElem_cons_succ, List.setIfInBounds_toArray, List.set_cons_zero, List.set_cons_succ]
      refine wpAnyH_take (i := 10) (v := ?vc10) rfl (by kernel_rfl) (by kernel_rfl) (by kernel_rfl) (fun _ _ _ h => h) (Or.inl ⟨by kernel_rfl, ?yc10⟩) (by assumption) ?rc10
      case yc10 => (intro w hSw; (try dsimp only at hSw); go_simp; (try with_reducible rfl))
      try simp only [Act.put, List.getElem_toArray, List.getElem_cons_zero, List.getElem_cons_succ, List.setIfInBounds_toArray, List.set_cons_zero, List.set_cons_succ]
      refine wpAnyH_take (i := 14) (v := ?vc14) rfl (by kernel_rfl) (by kernel_rfl) (by kernel_rfl) (fun _ _ _ h => h) (Or.inl ⟨by kernel_rfl, ?yc14⟩) (by assumption) ?rc14
      case yc14 => (intro w hSw; (try dsimp only at hSw); go_simp; (try with_reducible rfl))
      try simp only [Act.put, List.getElem_toArray, List.getElem_cons_zero, List.getElem_cons_succ, List.setIfInBounds_toArray, List.set_cons_zero, List.set_cons_succ]
      refine wpAnyH_take (i := 15) (v := ?vc15) rfl (by kernel_rfl) (by kernel_rfl) (by kernel_rfl) (fun _ _ _ h => h) (Or.inl ⟨by kernel_rfl, ?yc15⟩) (by assumption) ?rc15
      case yc15 => (intro w hSw; (try dsimp only at hSw); go_simp; (try with_reducible rfl))
      try simp only [Act.put, List.getElem_toArray, List.getElem_cons_zero, List.getElem_cons_succ, List.setIfInBounds_toArray, List.set_cons_zero, List.set_cons_succ]
      refine wpAnyH_take (i := 16) (v := ?vc16) rfl (by kernel_rfl) (by kernel_rfl) (by kernel_rfl) (fun _ _ _ h => h) (Or.inl ⟨by kernel_rfl, ?yc16⟩) (by assumption) ?rc16
      case yc16 => (intro w hSw; (try dsimp only at hSw); go_simp; (try with_reducible rfl))
      try simp only [Act.put, List.getElem_toArray, List.getElem_cons_zero, List.getElem_cons_succ, List.setIfInBounds_toArray, List.set_cons_zero, List.set_cons_succ]
      refine wpAnyH_ready (rs := [8]) (by kernel_rfl) (by simp) ?_
      refine AllReadyH.cons rfl (fun K hK => ?_) AllReadyH.nil
      go_simp
      refine (KA.out _).mono ?_
      rintro e w3 ⟨A3, c3, rfl, hs3, hb3⟩
      go_wp2_with fail
      replace hb3 : Below w1.heap.size w1 w3 := (Below.refl w1.heap.size w1).drew.trans hb3
      refine hK.out _ _ hb3 (fun _ => ?_)
      clear hK K hHeld
      refine held_mono (S := fun w' => Below w3.heap.size w3 w') (fun w' h => hb3.trans (h.mono hb3.size)) _ _ _ _ ?_
      have hHeld : Below w3.heap.size w3 w3 := Below.refl _ _
      refine wpAnyH_take (i := 9) (v := ?vc9) rfl (by kernel_rfl) (by kernel_rfl) (by kernel_rfl) (fun _ _ _ h => h) (Or.inl ⟨by kernel_rfl, ?yc9⟩) (by assumption) ?rc9
      case yc9 => (intro w hSw; (try dsimp only at hSw); have qc := hs3 _ hSw; go_simp; (try with_reducible rfl))
      try simp only [Act.put, List.getElem_toArray, List.getElem_cons_zero, List.getElem_cons_succ, List.setIfInBounds_toArray, List.set_cons_zero, List.set_cons_succ]
      refine wpAnyH_ready (rs := [11]) (by kernel_rfl) (by simp) ?_
      refine AllReadyH.cons rfl (fun K hK => ?_) AllReadyH.nil
      go_simp
      refine (KB.out _).mono ?_
      rintro e w4 ⟨A4, c4, rfl, hs4, hb4⟩
      go_wp2_with fail
      refine hK.out _ _ hb4 (fun _ => ?_)
      clear hK K hHeld
      refine held_mono (S := fun w' => Below w4.heap.size w4 w') (fun w' h => hb4.trans (h.mono hb4.size)) _ _ _ _ ?_
      have hHeld : Below w4.heap.size w4 w4 := Below.refl _ _
      refine wpAnyH_take (i := 12) (v := ?vc12) rfl (by kernel_rfl) (by kernel_rfl) (by kernel_rfl) (fun _ _ _ h => h) (Or.inl ⟨by kernel_rfl, ?yc12⟩) (by assumption) ?rc12
      case yc12 => (intro w hSw; (try dsimp only at hSw); have qc := hs4 _ hSw; go_simp; (try with_reducible rfl))
      try simp only [Act.put, List.getElem_toArray, List.getElem_cons_zero, List.getElem_cons_succ, List.setIfInBounds_toArray, List.set_cons_zero, List.set_cons_succ]
      refine wpAnyH_take (i := 13) (v := ?vc13) rfl (by kernel_rfl) (by kernel_rfl) (by kernel_rfl) (fun _ _ _ h => h) (Or.inl ⟨by kernel_rfl, ?yc13⟩) (by assumption) ?rc13
      case yc13 => (intro w hSw; (try dsimp only at hSw); go_simp; (try with_reducible rfl))
      try simp only [Act.put, List.getElem_toArray, List.getElem_cons_zero, List.getElem_cons_succ, List.setIfInBounds_toArray, List.set_cons_zero, List.set_cons_succ]
      refine wpAnyH_take (i := 17) (v := ?vc17) rfl (by kernel_rfl) (by kernel_rfl) (by kernel_rfl) (fun _ _ _ h => h) (Or.inl ⟨by kernel_rfl, ?yc17⟩) (by assumption) ?rc17
      case yc17 => (intro w hSw; (try dsimp only at hSw); go_simp; (try with_reducible rfl))
      try simp only [Act.put, List.getElem_toArray, List.getElem_cons_zero, List.getElem_cons_succ, List.setIfInBounds_toArray, List.set_cons_zero, List.set_cons_succ]
      refine wpAnyH_take (i := 18) (v := ?vc18) rfl (by kernel_rfl) (by kernel_rfl) (by kernel_rfl) (fun _ _ _ h => h) (Or.inl ⟨by kernel_rfl, ?yc18⟩) (by assumption) ?rc18
      case yc18 => (intro w hSw; (try dsimp only at hSw); go_simp; (try with_reducible rfl))
      try simp only [Act.put, List.getElem_toArray, List.getElem_cons_zero, List.getElem_cons_succ, List.setIfInBounds_toArray, List.set_cons_zero, List.set_cons_succ]
      refine wpAnyH_done (by kernel_rfl) ?_ _
      go_wp2
      go_meet
      exact ⟨rfl, hb1'.trans ((hb3.trans (hb4.mono hb3.size)).mono hs1)⟩
    · by_cases ha0 : 0 ≤ a
      · have hda : decide (0 ≤ a) = true := by simpa using ha0
        have hdb : decide (0 ≤ b) = false := by simp; omega
        go_quiet (fail)
        go_wp2
        go_meet
        exact ⟨rfl, below_drewN hb1' _⟩
      · have hda : decide (0 ≤ a) = false := by simpa using ha0
        go_quiet (fail)
        go_wp2
        go_meet
        exact ⟨rfl, below_drewN hb1' _⟩
  case rest =>
    obtain ⟨rfl, hb⟩ := hcut
    have hz := hb.size
    clear hb1' hs1
    by_cases hbig : x.length ≤ 100000 ∧ behind.length ≤ 100000
    · obtain ⟨g1, g2⟩ := hbig
      have g1' : decide ((100000 : Int) < (x.length : Int)) = false := by simp; omega
      have g2' : decide ((100000 : Int) < (behind.length : Int)) = false := by simp; omega
      have ho0 := own_empty wc
      have hal := (Below.refl wc.heap.size wc).alloc (Nat.le_refl _) (.cells #[] 5)
      have hzal := hal.size
      have lx0 := ((HX.out.below hb).more hz).below hal
      have HLH := Lib.hid ((HH.out.below hb).more hz)
      have HLX := Lib.hid ((HX.out.below hb).more hz)
      go_wp2_with (first
        | (at_builtin; refine wpList_append_lies rfl (.tmp 50) (.tmp 51) 22 rfl wc.heap.size 5 i0 (.int .u8 0) 1 Try.underlying22 hi hz0 hz1 hz2 rfl _ _ _ rfl ho0 _ A2 x.length c2 (cellsOf x) rfl (by simp) lx0 (bytes_oneCell _) (by unfold maxLen; omega) (by omega) hzal ?_; intro v4 w4 ho4 hg4; have hB4 := grown_below hal ho0 hg4 hzal; have hz4 := hB4.size; have l4 := HLH.out.below hB4; clear ho0 hg4 hal hzal lx0)
        | (at_builtin; refine wpList_append_lies rfl (.tmp 52) (.tmp 53) 22 rfl wc.heap.size 5 i0 (.int .u8 0) 1 Try.underlying22 hi hz0 hz1 hz2 rfl _ _ _ rfl ho4 _ A3 behind.length c3 (cellsOf behind) rfl (by simp) l4 (bytes_oneCell _) (by unfold maxLen; omega) (by omega) hz4 ?_; intro v5 w5 ho5 hg5; have hB5 := grown_below hB4 ho4 hg5 hz4; have hz5 := hB5.size; clear ho4 hg5 hB4 hz4 l4))
      have hown := own_cast ho5 (m := (x ++ behind).length) (ys := cellsOf (x ++ behind)) (by rw [List.length_append]; omega) (by simp [cellsOf])
      have HN : Hid (roomV x.length 0 8 = 0 → roomV (x ++ behind).length 0 8 = 0 ∧ numA (x ++ behind) 0 = numA x 0 ∧ numB (x ++ behind) 0 = numB x 0) := fun h => num_more h
      have HBM : Hid (bytesE x 0 = 0 → bytesE (x ++ behind) 0 = 0 ∧ cnt (x ++ behind) 0 = cnt x 0 ∧ bytesA (x ++ behind) 0 = bytesA x 0 ∧ bytesB (x ++ behind) 0 = bytesB x 0) := fun h => bytes_more h
      have HRM : Hid (rowE x 0 = 0 → rowE (x ++ behind) 0 = 0 ∧ cnt (x ++ behind) 0 = cnt x 0 ∧ items (x ++ behind) ((0 : Int) + 4) (cnt x 0) = items x ((0 : Int) + 4) (cnt x 0) ∧ offs (x ++ behind) ((0 : Int) + 4) (cnt x 0) = offs x ((0 : Int) + 4) (cnt x 0)) := fun h => row_more h
      clear ho5
      generalize x ++ behind = Y at *
      obtain ⟨A5, c5, hv5, m1, m2, m3⟩ := own_lies hown
      subst hv5
      have hb6 := hb.trans (hB5.mono hz)
      have HLX5 := Lib.hid ((HX.out.below hb6).more hb6.size)
      have HLY5 := Lib.hid m3
      clear hown m3 hB5 hz5 HLH HLX
      refine (num A2 x c2 0 _ _ hx1 hx2 (by omega) (by omega) HLX5.out HYX.out).mono ?_
      rintro e w6 ⟨rfl, rfl⟩
      go_wp2_with fail
      refine (num A5 Y c5 0 _ _ m1 m2 (by omega) (by omega) HLY5.out HYY.out).mono ?_
      rintro e w6 ⟨rfl, rfl⟩
      go_upto_region 9 with fail
      go_cut [11, 12, 13, 14, 15, 16, 82] (fun _ _ _ _ _ _ s wx => s = .bool false ∧ wx = w5)
      case first =>
        by_cases hr : roomV x.length 0 8 = 0
        · obtain ⟨n1, n2, n3⟩ := HN.out hr
          rw [hr, n1, n2, n3]
          clear hr n1 n2 n3
          go_wp2
          go_meet
          exact ⟨rfl, rfl⟩
        · have hrb : (roomV x.length 0 8 == 0) = false := by simpa using hr
          clear hr
          go_wp2
          go_meet
          exact ⟨rfl, rfl⟩
      case rest =>
        obtain ⟨rfl, rfl⟩ := hcut
        clear HN
        go_wp2_with fail
        refine (bytes_both A2 x _ c2 0 _ rfl hx1 hx2 (by omega) (by omega) HLX5.out HYX.out).mono ?_
        rintro e w6 ⟨A6, n6, c6, T6, E6, rfl, hE6, p1, p2, p3, hb7⟩
        have hb8 := hb6.trans (hb7.mono hb6.size)
        have HLY6 := Lib.hid ((HLY5.out.below hb7).more hb7.size)
        have HE6 := Lib.hid hE6
        have HP6 := Lib.hid p3
        clear hE6 p3
        go_wp2_with fail
        refine (bytes_both A5 Y _ c5 0 _ rfl m1 m2 (by omega) (by omega) HLY6.out HYY.out).mono ?_
        rintro e w7 ⟨A7, n7, c7, T7, E7, rfl, hE7, p4, p5, p6, hb9⟩
        have hb10 := hb8.trans (hb9.mono hb8.size)
        have HE7 := Lib.hid hE7
        have HP7 := Lib.hid p6
        clear hE7 p6
        go_upto_region 13 with fail
        go_cut [17, 18, 12, 13, 15, 16, 112] (fun _ _ _ _ _ _ s wx => s = .bool false ∧ wx = w7)
        case first =>
          by_cases hr : E6 = 0
          · obtain ⟨q1, q2, q3⟩ := HP6.out hr
            obtain ⟨r1, r2, r3, r4⟩ := HBM.out (by rw [← HE6.out]; exact hr)
            have hE7 : E7 = 0 := by rw [HE7.out]; exact r1
            obtain ⟨q4, q5, q6⟩ := HP7.out hE7
            rw [r3] at q6
            have hT : T7 = T6 := by rw [q4, q1, r4]
            have hN : n7 = n6 := by rw [q5, q2, r2]
            have hlen : (bytesA x 0).length = n6 := by rw [q2]; exact bytesA_length (by rw [← HE6.out]; exact hr)
            have d1 := run_string_lies (P := Try.prog) w7 22 9 5 Try.underlying22 Try.underlying5 Try.underlying9 w6.heap.size A6 n6 c6 (bytesA x 0) hlen (q3.below hb9)
            have d2 := run_string_lies (P := Try.prog) w7 22 9 5 Try.underlying22 Try.underlying5 Try.underlying9 w7.heap.size A7 n6 c7 (bytesA x 0) hlen q6
            generalize strOfNums (bytesA x 0) = S at *
            clear q1 q2 q3 q4 q5 q6 r1 r2 r3 r4 hlen
            subst hr hE7 hT hN
            go_wp2
            go_meet
            exact ⟨rfl, rfl⟩
          · have hrb : (E6 == 0) = false := by simpa using hr
            clear hr
            go_wp2
            go_meet
            exact ⟨rfl, rfl⟩
        case rest =>
          obtain ⟨rfl, rfl⟩ := hcut
          have HLX7 := Lib.hid ((HX.out.below hb10).more hb10.size)
          have HLY7 := Lib.hid ((HLY6.out.below hb9).more hb9.size)
          clear HBM HP6 HP7 HE6 HE7 hb7 hb9 hb8 hb6 HLX5 HLY5 HLY6 p1 p2 p4 p5
          go_wp2_with fail
          refine (row_both A2 x _ c2 0 _ rfl hx1 hx2 (by omega) (by omega) HLX7.out HYX.out).mono ?_
          rintro e w8 ⟨A8, n8, c8, T8, E8, rfl, hE8, p1, p2, p3, hb7⟩
          have hb8 := hb10.trans (hb7.mono hb10.size)
          have HLY8 := Lib.hid ((HLY7.out.below hb7).more hb7.size)
          have HE8 := Lib.hid hE8
          have HP8 := Lib.hid p3
          clear hE8 p3
          go_wp2_with fail
          refine (row_both A5 Y _ c5 0 _ rfl m1 m2 (by omega) (by omega) HLY8.out HYY.out).mono ?_
          rintro e w9 ⟨A9, n9, c9, T9, E9, rfl, hE9, p4, p5, p6, hb9⟩
          have hb11 := hb8.trans (hb9.mono hb8.size)
          by_cases hr : E8 = 0
          · obtain ⟨q1, q2, q3⟩ := HP8.out hr
            obtain ⟨r1, r2, r3, r4⟩ := HRM.out (by rw [← HE8.out]; exact hr)
            have hE9' : E9 = 0 := by rw [hE9]; exact r1
            obtain ⟨q4, q5, q6⟩ := p6 hE9'
            rw [r2, r3] at q5 q6
            have hT : T9 = T8 := by rw [q4, q1, r2, r4]
            have HS := Lib.hid (same_n A8 A9 c8 c9 n8 n9 (items x ((0 : Int) + 4) (cnt x 0)) w9 q2 q5 p1 p2 ((q3.below hb9).more hb9.size) q6)
            clear q1 q2 q3 q4 q5 q6 r1 r2 r3 r4 hE9 p6 HP8 HE8 HRM hb9 hb7 hb8
            subst hr hE9' hT
            go_wp2_with fail
            refine HS.out.mono ?_
            rintro e w10 ⟨rfl, hb12⟩
            have hb13 := hb11.trans (hb12.mono hb11.size)
            clear HS hb12 hb11
            go_wp2
            go_ret
            exact ⟨rfl, hb13⟩
          · have hrb : (E8 != 0) = true := by simpa using hr
            clear hr hE9 p6 HP8 HE8 HRM
            go_wp2
            go_ret
            exact ⟨rfl, hb11⟩
    · by_cases g1 : x.length ≤ 100000
      · have g2 : 100000 < behind.length := by omega
        go_wp2
        go_ret
        exact ⟨rfl, hb⟩
      · have g1' : 100000 < x.length := by omega
        go_wp2
        go_ret
        exact ⟨rfl, hb⟩
end Go.Proofs.Ytjkdlchfmgefjaa
