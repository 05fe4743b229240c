/- The walk of TokenBlanks: it returns true, and nothing that was there has changed. Conditions: none beyond what its arguments are; the tables lie as the program lays them. -/
import Derived.Test.YtdmjlgjnboofdaaDoorBl
import Derived.Test.YtdmjlgjnboofdaaDoorLx
import Derived.Test.YtdmjlgjnboofdaaDoorTe
namespace Go.Proofs.YtdmjlgjnboofdaaDoor
open Go.RowKit

/-- a remark without its line ends -/
def noLine (r : List Nat) : List Nat := r.filter fun x => decide (x ≠ 10)
theorem noLine_all (r : List Nat) : ∀ x ∈ noLine r, x ≠ 10 := by
  intro x hx
  have := (List.mem_filter.1 hx).2
  simpa using this
theorem noLine_le (r : List Nat) : (noLine r).length ≤ r.length := List.length_filter_le _ _
theorem noLine_yes {r : List Nat} {k b : Nat} (h : r[k]? = some b) (hb : b ≠ 10) : noLine (r.take (k + 1)) = noLine (r.take k) ++ [b] := by
  unfold noLine
  rw [List.take_add_one, h, List.filter_append]
  simp [hb]
theorem noLine_no {r : List Nat} {k b : Nat} (h : r[k]? = some b) (hb : b = 10) : noLine (r.take (k + 1)) = noLine (r.take k) := by
  unfold noLine
  rw [List.take_add_one, h, List.filter_append]
  simp [hb]
theorem noLine_byn {r : List Nat} (h : Byn r) : Byn (noLine r) := h.sub fun _ hx => (List.mem_filter.1 hx).1
theorem lies_one (w : World) (x : Int) (fr : Nat × Nat) : Lies (w.alloc (.cells #[.int .u8 x] 5 fr)) (w.heap.size + 1) (some ⟨w.heap.size, 0, none⟩) 1 [.int .u8 x] :=
  ⟨(fun e => by cases e), fun j u hu => ⟨_, rfl, by simp, by rw [Addr.add_lit, Nat.zero_add]; exact cell_new w [.int .u8 x] 5 fr j hu⟩⟩
theorem one_one (x : Int) : ∀ u ∈ [Value.int .u8 x], u.oneCell' = true := by
  intro u hu
  simp at hu
  subst hu
  rfl

theorem lexed_within (l : List Nat) : ∀ t ∈ (lexed l).toks, t.place < l.length := lexed_all fun _ hp _ => hp
theorem own_eq4 {w : World} {base : Nat} {v : Value} {n m : Nat} {xs : List Value} (h : w.ownsRow base 33 4 v n xs) (hn : n = m) : w.ownsRow base 33 4 v m xs := by
  subst hn
  exact h
theorem own_cap {w : World} {base n c g : Nat} {xs : List Value} (h : w.ownsRow base 33 4 (.slice (some ⟨g, 0, none⟩) n c) n xs) : n ≤ c ∧ c ≤ maxLen := by
  rcases h.2 with ⟨e, _⟩ | ⟨g', cap, cur, e, _, _, h1, h2, _⟩
  · cases e
  · injection e with _ _ e3
    subst e3
    exact ⟨h1, h2⟩
theorem range_of_new {w w' : World} {c0 c1 c2 c3 : Value} (h : Below (w.alloc (.cells #[c0, c1, c2, c3] 33)).heap.size (w.alloc (.cells #[c0, c1, c2, c3] 33)) w') : w'.rangeAt w.heap.size 0 [c0, c1, c2, c3] := by
  intro j v hv
  rw [Nat.zero_add, h.cell (by simp)]
  exact cell_new w [c0, c1, c2, c3] 33 (0, 0) j hv

theorem tok_of {w : World} {g i : Nat} {t : Tok} (h : TokAt w g i t) : TokIn w g (i * 4) t := h
theorem two_one {w : World} {gz o kind num p : Nat} {text : List Nat} (hz : TokIn w gz o ⟨kind, text, num, p⟩) (hg : gz < w.heap.size) :
    TwoRows (w.alloc (.cells #[.int .i64 kind, .string (strN text), .int .i64 num, .int .i64 (p : Nat)] 33)).drew (some ⟨w.heap.size, 0, none⟩) (some ⟨gz, o, none⟩) [⟨kind, text, num, p⟩] := by
  have hb : Below w.heap.size w (w.alloc (.cells #[.int .i64 kind, .string (strN text), .int .i64 num, .int .i64 (p : Nat)] 33)).drew := ((Below.refl _ _).alloc (Nat.le_refl _) _).drew
  refine .inr ⟨w.heap.size, 0, gz, o, rfl, rfl, by simp, by simp; omega, fun i t hi => ?_⟩
  have hi0 : i = 0 := by
    have := (List.getElem?_eq_some_iff.1 hi).1
    simp at this
    exact this
  subst hi0
  simp at hi
  subst hi
  refine ⟨?_, ?_⟩
  · have key : ∀ j u, [Value.int .i64 kind, .string (strN text), .int .i64 num, .int .i64 (p : Nat)][j]? = some u → (w.alloc (.cells #[.int .i64 kind, .string (strN text), .int .i64 num, .int .i64 (p : Nat)] 33)).drew.cell? ⟨w.heap.size, j, none⟩ = some u := fun j u hu => cell_new w _ 33 (0, 0) j hu
    exact ⟨key 0 _ rfl, key 1 _ rfl, key 2 _ rfl, key 3 _ rfl⟩
  · have := hz.below hb hg
    simpa using this

set_option maxRecDepth 100000 in
set_option maxHeartbeats 1600000 in
theorem blanks_walk (Aa Ab Ar : Option Addr) (a b r : List Nat) (ca cb cr : Nat) (w : World) (ha1 : a.length ≤ ca) (ha2 : ca ≤ maxLen) (ha3 : Lies w w.heap.size Aa ca (bts a)) (ha4 : Byn a)
    (hb1 : b.length ≤ cb) (hb2 : cb ≤ maxLen) (hb3 : Lies w w.heap.size Ab cb (bts b)) (hb4 : Byn b) (hr3 : Lies w w.heap.size Ar cr (bts r)) (hr4 : Byn r) (ht : Tab w) :
    Calls Tryd.prog 5 #[.slice Aa a.length ca, .slice Ab b.length cb, .slice Ar r.length cr] w fun e w' => e = .returned (.bool true) ∧ Below w.heap.size w w' := by
  have LA := Lib.hid ha3
  have LB := Lib.hid hb3
  have LR := Lib.hid hr3
  have YA := Lib.hid ha4
  have YB := Lib.hid hb4
  have YR := Lib.hid hr4
  have HT := Lib.hid ht
  have hpos := ht.1
  clear ha3 hb3 hr3 ha4 hb4 hr4 ht
  obtain ⟨i0, hi, hz0, hz1, hz2⟩ := info_parts info5
  go_enter Tryd.func5, Tryd.ntmps5
  go_wp2_with fail
  refine (head_true _ HT.out).mono ?_
  rintro e w1 ⟨rfl, q1⟩
  have BW1 := Lib.hid q1
  have s1 := q1.size
  clear q1
  go_wp2_with fail
  refine (lex Aa a ca w1 ha1 ha2 ((LA.out.below BW1.out).more s1) YA.out (HT.out.below BW1.out hpos)).mono ?_
  rintro e w2 ⟨vx, rfl, ox, q2⟩
  have BW2 := Lib.hid (BW1.out.trans (q2.mono s1))
  have s2 := BW2.out.size
  have OX2 := Lib.hid ox
  clear q2 ox
  go_wp2_with fail
  refine (lex Ab b cb w2 hb1 hb2 ((LB.out.below BW2.out).more s2) YB.out (HT.out.below BW2.out hpos)).mono ?_
  rintro e w3 ⟨vy, rfl, oy, q3⟩
  have BW3 := Lib.hid (BW2.out.trans (q3.mono s2))
  have s3 := BW3.out.size
  have OX := Lib.hid (own_below OX2.out q3 (Nat.le_refl _))
  have OY := Lib.hid oy
  clear q3 oy OX2
  have mx := lexed_many a
  have my := lexed_many b
  generalize hEx : lexed a = o1 at *
  generalize hEy : lexed b = o2 at *
  have EX := Lib.hid hEx
  have EY := Lib.hid hEy
  clear hEx hEy
  obtain ⟨ea, xs, pa⟩ := o1
  obtain ⟨eb, ys, pb⟩ := o2
  dsimp only at OX OY mx my ⊢
  obtain ⟨Ax, cx, hvx⟩ := own_shape OX.out
  obtain ⟨Ay, cy, hvy⟩ := own_shape OY.out
  subst hvx hvy
  by_cases hea : ea = 0
  case neg =>
    have e1 : ((ea : Int) != 0) = true := by rw [bne_iff_ne]; omega
    clear hi hz0 hz1 hz2
    go_wp2
    go_ret
    exact ⟨rfl, BW3.out⟩
  have e1 : ((ea : Int) != 0) = false := by simp [hea]
  by_cases heb : eb = 0
  case neg =>
    have e2 : ((eb : Int) != 0) = true := by rw [bne_iff_ne]; omega
    clear hi hz0 hz1 hz2 hea
    go_wp2
    go_ret
    exact ⟨rfl, BW3.out⟩
  have e2 : ((eb : Int) != 0) = false := by simp [heb]
  have HEA := Lib.hid hea
  have HEB := Lib.hid heb
  clear hea heb
  by_cases hr100 : r.length > 100
  · clear hi hz0 hz1 hz2
    go_wp2
    go_ret
    exact ⟨rfl, BW3.out⟩
  by_cases ha1500 : a.length > 1500
  · clear hi hz0 hz1 hz2
    go_wp2
    go_ret
    exact ⟨rfl, BW3.out⟩
  by_cases hb1500 : b.length > 1500
  · clear hi hz0 hz1 hz2
    go_wp2
    go_ret
    exact ⟨rfl, BW3.out⟩
  by_cases hxy : xs.length + ys.length > 2048
  · clear hi hz0 hz1 hz2
    go_wp2
    go_ret
    exact ⟨rfl, BW3.out⟩
  have ho0 := Lib.hid (own_new w3 [] 0 rfl (Nat.zero_le _))
  have hb0 := Lib.hid (below_alloc w3 (.cells #[] 5))
  have HZ0 : Hid (w3.heap.size ≤ (w3.alloc (.cells #[] 5)).heap.size) := hb0.out.size
  have LA3 := Lib.hid (((LA.out.below BW3.out).more s3).below hb0.out)
  go_wp2_with (first
    | (at_builtin; refine wpList_append_lies rfl (.tmp 64) (.tmp 65) 22 rfl w3.heap.size 5 i0 (.int .u8 0) 1 Tryd.underlying22 hi hz0 hz1 hz2 rfl _ _ _ rfl ho0.out w3.heap.size Aa a.length ca (bts a) rfl (by rw [bts_length]) LA3.out (bts_one _) (by unfold maxLen; omega) (by omega) HZ0.out ?_; intro v4 w4 ho4 hg4
       have hb4 : Below w3.heap.size w3 w4 := hb0.out.grown hg4 HZ0.out (fun k hk => (ho0.out.lt k hk).1)
       have hs4 := hb4.size
       have hm : (convert 22 22 (.slice (some ⟨w4.heap.size, 0, none⟩) 4 4)).run Tryd.prog (w4.alloc (.cells #[.int .u8 10, .int .u8 9, .int .u8 32, .int .u8 35] 5)) = .ok (.slice (some ⟨w4.heap.size, 0, none⟩) 4 4) (w4.alloc (.cells #[.int .u8 10, .int .u8 9, .int .u8 32, .int .u8 35] 5 (4, 5))) := run_marked w4 _ 4 4
       have ho5 := Lib.hid (ho4.alloc (.cells #[.int .u8 10, .int .u8 9, .int .u8 32, .int .u8 35] 5 (4, 5)))
       have hb5 := Lib.hid (hb4.alloc hs4 (.cells #[.int .u8 10, .int .u8 9, .int .u8 32, .int .u8 35] 5 (4, 5)))
       have l5 : Hid (Lies (w4.alloc (.cells #[.int .u8 10, .int .u8 9, .int .u8 32, .int .u8 35] 5 (4, 5))) (w4.heap.size + 1) (some ⟨w4.heap.size, 0, none⟩) 4 (bts [10, 9, 32, 35])) := lies_new w4 [10, 9, 32, 35] 4 5 (4, 5)
       have HZ5 := Lib.hid hb5.out.size
       clear ho4 hg4 hb4)
    | (at_builtin; refine wpList_append_lies rfl (.tmp 66) (.tmp 68) 22 rfl w3.heap.size 5 i0 (.int .u8 0) 1 Tryd.underlying22 hi hz0 hz1 hz2 rfl _ _ _ rfl ho5.out _ _ 4 4 (bts [10, 9, 32, 35]) rfl rfl l5.out (bts_one _) (by unfold maxLen; omega) (by omega) HZ5.out ?_; intro v6 w6 ho6 hg6
       have hb6 : Below w3.heap.size w3 w6 := hb5.out.grown hg6 HZ5.out (fun k hk => (ho5.out.lt k hk).1)))
  clear hm ho5 hb5 l5 HZ5 ho0 hb0 HZ0 LA3 hg6
  have ho7 := own_eq ho6 (m := (a ++ [10, 9, 32, 35] ++ noLine (r.take 0)).length) (ys := bts (a ++ [10, 9, 32, 35] ++ noLine (r.take 0))) (by simp [noLine]) (by rw [bts_append, bts_append]; simp [noLine, bts])
  have HO7 := Lib.hid ho7
  have HB6 := Lib.hid hb6
  clear ho6 ho7 hb6
  go_loopw [14, 15] (fun v i wr => ∃ k : Nat, k ≤ r.length ∧ i = .int .i64 k ∧ wr.ownsRow w3.heap.size 5 1 v (a ++ [10, 9, 32, 35] ++ noLine (r.take k)).length (bts (a ++ [10, 9, 32, 35] ++ noLine (r.take k))) ∧ Below w3.heap.size w3 wr) (fun _ i _ => r.length - (intOf i).toNat)
  case atStart => exact ⟨0, Nat.zero_le _, rfl, HO7.out, HB6.out⟩
  case round =>
    clear HO7 HB6
    obtain ⟨k, hk, rfl, hown, hbel⟩ := hrel
    have HO := Lib.hid hown
    have HB := Lib.hid hbel
    have sr := hbel.size
    clear hown hbel
    have hnl : (noLine (r.take k)).length ≤ 100 := by have h1 := noLine_le (r.take k); simp at h1; omega
    have hlen : (a ++ [10, 9, 32, 35] ++ noLine (r.take k)).length ≤ 1604 := by simp; omega
    by_cases hlt : k < r.length
    · obtain ⟨ad, x, rfl, hBa, hg, hcell⟩ := ((LR.out.below BW3.out).below (HB.out.mono s3)).nat hlt
      have hx := byn_get YR.out hg
      by_cases h10 : x = 10
      · have HN := Lib.hid (noLine_no hg h10)
        subst h10
        clear hg hi hz0 hz1 hz2
        go_wp2
        go_roundw
        case rel => exact ⟨k + 1, by omega, by go_num, by rw [HN.out]; exact HO.out, HB.out⟩
        case measure => simp [intOf]; omega
      · have HN := Lib.hid (noLine_yes hg h10)
        have hne : ((x : Int) != 10) = true := by rw [bne_iff_ne]; omega
        clear hg
        have ho2 := Lib.hid (HO.out.alloc (.cells #[.int .u8 (x : Nat)] 5))
        have bnew := Lib.hid (HB.out.alloc sr (.cells #[.int .u8 (x : Nat)] 5))
        have lnew := Lib.hid (lies_one wr (x : Nat) (0, 0))
        have snew := Lib.hid bnew.out.size
        generalize noLine (r.take k) = ns at *
        generalize hal : a ++ [10, 9, 32, 35] ++ ns = al at *
        have HAL := Lib.hid hal
        clear hal
        go_wp2_with (at_builtin; refine wpList_append_lies rfl (.tmp 81) (.tmp 86) 22 rfl w3.heap.size 5 i0 (.int .u8 0) 1 Tryd.underlying22 hi hz0 hz1 hz2 rfl _ _ _ rfl ho2.out _ _ 1 1 [.int .u8 (x : Nat)] rfl rfl lnew.out (one_one _) (by unfold maxLen; omega) (by omega) snew.out ?_; intro v8 w8 ho8 hg8)
        have hb8 : Below w3.heap.size w3 w8 := bnew.out.grown hg8 snew.out (fun g hg => (ho2.out.lt g hg).1)
        have ho9 := own_snoc ho8 (l := al) (d := x) rfl rfl
        go_roundw
        case rel => exact ⟨k + 1, by omega, by go_num, by rw [HN.out, ← List.append_assoc, HAL.out]; exact ho9, hb8⟩
        case measure => simp [intOf]; omega
    · obtain rfl : k = r.length := by omega
      rw [List.take_length] at HO hnl hlen
      have HNA := Lib.hid (noLine_all r)
      have HNY := Lib.hid (noLine_byn YR.out)
      have HLX : Hid (lexed (a ++ ([10, 9, 32, 35] ++ (noLine r ++ [10])) ++ b) = ⟨0, xs ++ ys.map (shift (a.length + ((noLine r).length + 5))), 0⟩) :=
        lexed_between (by rw [EX.out, HEA.out]) (by rw [EY.out, HEB.out]) (by omega) (by omega) hnl HNA.out (by omega)
      generalize noLine r = ns at *
      have ho2 := Lib.hid (HO.out.alloc (.cells #[.int .u8 10] 5))
      have bnew := Lib.hid (HB.out.alloc sr (.cells #[.int .u8 10] 5))
      have lnew := Lib.hid (lies_one wr 10 (0, 0))
      have snew := Lib.hid bnew.out.size
      generalize hal : a ++ [10, 9, 32, 35] ++ ns = al at *
      have HAL := Lib.hid hal
      clear hal
      go_wp2_with (first
        | (at_builtin; refine wpList_append_lies rfl (.tmp 88) (.tmp 89) 22 rfl w3.heap.size 5 i0 (.int .u8 0) 1 Tryd.underlying22 hi hz0 hz1 hz2 rfl _ _ _ rfl ho2.out _ _ 1 1 [.int .u8 10] rfl rfl lnew.out (one_one _) (by unfold maxLen; omega) (by omega) snew.out ?_; intro v8 w8 ho8 hg8
           have hb8 : Below w3.heap.size w3 w8 := bnew.out.grown hg8 snew.out (fun g hg => (ho2.out.lt g hg).1)
           have hs8 := hb8.size
           have HO8 := Lib.hid ho8
           have HB8 := Lib.hid hb8
           have LB8 := Lib.hid (((LB.out.below BW3.out).more s3).below hb8)
           clear ho8 hg8 hb8)
        | (at_builtin; refine wpList_append_lies rfl (.tmp 90) (.tmp 91) 22 rfl w3.heap.size 5 i0 (.int .u8 0) 1 Tryd.underlying22 hi hz0 hz1 hz2 rfl _ _ _ rfl HO8.out w3.heap.size Ab b.length cb (bts b) rfl (by rw [bts_length]) LB8.out (bts_one _) (by unfold maxLen; omega) (by omega) hs8 ?_; intro v9 w9 ho9 hg9
           have hb9 : Below w3.heap.size w3 w9 := HB8.out.grown hg9 hs8 (fun g hg => (HO8.out.lt g hg).1)))
      have HD : Hid (a.length + (ns.length + 5) = al.length + 1) := by
        show _ = _
        rw [← HAL.out]
        simp
        omega
      rw [HD.out] at HLX
      have hlist : (bts al ++ [.int .u8 10]) ++ bts b = bts (a ++ ([10, 9, 32, 35] ++ (ns ++ [10])) ++ b) := by
        rw [← HAL.out]
        simp [bts]
      have HLN : Hid ((a ++ ([10, 9, 32, 35] ++ (ns ++ [10])) ++ b).length = al.length + 1 + b.length) := by
        show _ = _
        rw [← HAL.out]
        simp
        omega
      have HO9 := Lib.hid (own_eq ho9 (m := al.length + 1 + b.length) (ys := bts (a ++ ([10, 9, 32, 35] ++ (ns ++ [10])) ++ b)) rfl hlist)
      have HYall : Hid (Byn (a ++ ([10, 9, 32, 35] ++ (ns ++ [10])) ++ b)) := (YA.out.append ((by intro x hx; simp at hx; omega : Byn [10, 9, 32, 35]).append (HNY.out.append (by intro x hx; simp at hx; omega)))).append YB.out
      have BW9 := Lib.hid (BW3.out.trans (hb9.mono s3))
      have HB9 := Lib.hid hb9
      have s9 := BW9.out.size
      obtain ⟨A9, c9, hv9⟩ := own_shape HO9.out
      subst hv9
      clear ho9 hg9 hb9 hlist ho2 bnew lnew snew HO8 HB8 LB8 hi hz0 hz1 hz2 HO HAL HNA HNY HB
      refine (lex_own _ (al.length + 1 + b.length) _ _ w9 HLN.out HO9.out HYall.out (HT.out.below BW9.out hpos)).mono ?_
      rw [HLX.out]
      rintro e w10 ⟨vz, rfl, oz, q10⟩
      dsimp only at oz ⊢
      rw [show ((0 : Nat) : Int) = 0 from rfl]
      have BW10 := Lib.hid (BW9.out.trans (q10.mono s9))
      have s10 := BW10.out.size
      have B310 := HB9.out.trans (q10.mono HB9.out.size)
      have OXz := Lib.hid (own_below OX.out B310 (Nat.le_refl _))
      have OYz := Lib.hid (own_below OY.out B310 (Nat.le_refl _))
      have hzl : (xs ++ ys.map (shift (al.length + 1))).length = xs.length + ys.length := by simp
      have OZ := Lib.hid (own_eq4 oz hzl)
      clear oz q10 B310 hzl OX OY
      obtain ⟨Az, cz, hvz⟩ := own_shape OZ.out
      subst hvz
      have HPL : Hid (∀ t ∈ ys, t.place < b.length) := by have h := lexed_within b; rw [EY.out] at h; exact h
      have hDle : al.length + 1 ≤ 1605 := by omega
      generalize al.length + 1 = D at *
      go_wp2
      go_loopw [19] (fun i wr => ∃ k : Nat, k ≤ xs.length + ys.length ∧ i = .int .i64 k ∧ Below w10.heap.size w10 wr) (fun i _ => xs.length + ys.length - (intOf i).toNat)
      case atStart => exact ⟨0, Nat.zero_le _, rfl, Below.refl _ _⟩
      case round =>
        obtain ⟨k, hk, rfl, hbel⟩ := hrel
        have HB := Lib.hid hbel
        have sr := hbel.size
        clear hbel
        by_cases hlt : k < xs.length + ys.length
        · obtain ⟨gz, cz', hv, _, hgz, hrowz⟩ := own_tok OZ.out (by omega)
          injection hv with hv1 hv2 hv3
          subst hv1 hv3
          have hczk := own_cap OZ.out
          by_cases hkx : k < xs.length
          · obtain ⟨t, htk⟩ : ∃ t, xs[k]? = some t := ⟨_, List.getElem?_eq_getElem hkx⟩
            obtain ⟨gx, cx', hv, _, hgx, hrowx⟩ := own_tok OXz.out (by omega)
            injection hv with hv1 hv2' hv3
            subst hv1 hv3
            have TZ := (hrowz k t (by rw [List.getElem?_append_left hkx]; exact htk)).below HB.out hgz
            obtain ⟨T1, T2, T3, T4⟩ := ((hrowx k t htk).below HB.out hgx).below (below_alloc wr (.cells #[.int .i64 0, .string ⟨#[]⟩, .int .i64 0, .int .i64 0] 33)) (Nat.lt_of_lt_of_le hgx sr)
            have HTZ := Lib.hid TZ
            clear hrowz hrowx htk TZ hv2 hv2'
            obtain ⟨kind, text, num, pl⟩ := t
            dsimp only at T1 T2 T3 T4
            have HRT : Hid (∀ w', Below (wr.alloc (.cells #[.int .i64 kind, .string (strN text), .int .i64 num, .int .i64 pl] 33)).heap.size (wr.alloc (.cells #[.int .i64 kind, .string (strN text), .int .i64 num, .int .i64 pl] 33)) w' → w'.rangeAt wr.heap.size 0 [.int .i64 kind, .string (strN text), .int .i64 num, .int .i64 pl]) := fun w' h => range_of_new h
            go_wp2
            clear T1 T2 T3 T4
            have HWT := Lib.hid (below_alloc wr (.cells #[.int .i64 kind, .string (strN text), .int .i64 num, .int .i64 pl] 33))
            have HTW := Lib.hid (tok_of (HTZ.out.below HWT.out (Nat.lt_of_lt_of_le hgz sr)))
            have hgw := Nat.lt_of_lt_of_le (Nat.lt_of_lt_of_le hgz sr) HWT.out.size
            generalize wr.alloc (.cells #[.int .i64 kind, .string (strN text), .int .i64 num, .int .i64 pl] 33) = wt at *
            have hwrap : IntKind.i64.wrap ((k : Int) + 1) = (k : Int) + 1 := IntWalk.i64_in _ (by omega)
            have c1 : (0 : Int) ≤ (k : Int) + 1 := by omega
            have c2 : (k : Int) + 1 ≤ (cz : Int) := by omega
            have c3 : ¬ cz = k := by omega
            have c4 : k ≤ ((k : Int) + 1).toNat := by omega
            have c5 : ((k : Int) + 1).toNat - k = 1 := by omega
            refine wp_region_held_drew (S := fun w' => Below wt.heap.size wt w') (by kernel_rfl) ?_ (fun hHeld => ?_)
            · exact (Below.refl _ _).drew
            refine wpAnyH_take (i := 0) (v := .agg #[.int .i64 kind, .string (strN text), .int .i64 num, .int .i64 pl]) rfl (by kernel_rfl) (by kernel_rfl) (by kernel_rfl) (fun _ _ _ h => h) (yieldsIf_load_mid (by kernel_rfl) 33 (.tmp 20) rfl wr.heap.size 0 rfl _ _ (fun w' h => HRT.out w' h) Tryd.underlying33 rfl info33s) (by assumption) ?r0
            simp only [Act.put, List.getElem_toArray, List.getElem_cons_zero, List.setIfInBounds_toArray, List.set_cons_zero, List.set_cons_succ]
            refine wpAnyH_take (i := 2) (v := ?v2) rfl (by kernel_rfl) (by kernel_rfl) (by kernel_rfl) (fun _ _ _ h => h) (Or.inl ⟨by kernel_rfl, ?y2⟩) (by assumption) ?r2
            case y2 => (intro w hSw; (try dsimp only at hSw); go_simp; (try with_reducible rfl))
            try simp only [Act.put, List.getElem_toArray, List.getElem_cons_zero, List.getElem_cons_succ, List.setIfInBounds_toArray, List.set_cons_zero, List.set_cons_succ]
            refine wpAnyH_take (i := 3) (v := ?v3) rfl (by kernel_rfl) (by kernel_rfl) (by kernel_rfl) (fun _ _ _ h => h) (Or.inl ⟨by kernel_rfl, ?y3⟩) (by assumption) ?r3
            case y3 => (intro w hSw; (try dsimp only at hSw); go_simp; (try with_reducible rfl))
            try simp only [Act.put, List.getElem_toArray, List.getElem_cons_zero, List.getElem_cons_succ, List.setIfInBounds_toArray, List.set_cons_zero, List.set_cons_succ]
            refine wpAnyH_take (i := 4) (v := ?v4) rfl (by kernel_rfl) (by kernel_rfl) (by kernel_rfl) (fun _ _ _ h => h) (Or.inl ⟨by kernel_rfl, ?y4⟩) (by assumption) ?r4
            case y4 => (intro w hSw; (try dsimp only at hSw); go_simp; (try with_reducible rfl))
            try simp only [Act.put, List.getElem_toArray, List.getElem_cons_zero, List.getElem_cons_succ, List.setIfInBounds_toArray, List.set_cons_zero, List.set_cons_succ]
            refine wpAnyH_take (i := 5) (v := ?v5) rfl (by kernel_rfl) (by kernel_rfl) (by kernel_rfl) (fun _ _ _ h => h) (Or.inl ⟨by kernel_rfl, ?y5⟩) (by assumption) ?r5
            case y5 => (intro w hSw; (try dsimp only at hSw); go_simp; (try with_reducible rfl))
            try simp only [Act.put, List.getElem_toArray, List.getElem_cons_zero, List.getElem_cons_succ, List.setIfInBounds_toArray, List.set_cons_zero, List.set_cons_succ]
            refine wpAnyH_take (i := 6) (v := ?v6) rfl (by kernel_rfl) (by kernel_rfl) (by kernel_rfl) (fun _ _ _ h => h) (Or.inl ⟨by kernel_rfl, ?y6⟩) (by assumption) ?r6
            case y6 => (intro w hSw; (try dsimp only at hSw); go_simp; (try with_reducible rfl))
            try simp only [Act.put, List.getElem_toArray, List.getElem_cons_zero, List.getElem_cons_succ, List.setIfInBounds_toArray, List.set_cons_zero, List.set_cons_succ]
            refine wpAnyH_ready (rs := [1]) (by kernel_rfl) (by simp) ?_
            refine AllReadyH.cons rfl (fun K hK => ?_) AllReadyH.nil
            go_simp
            have h11 : Below wt.heap.size wt (wt.alloc (.cells #[.int .i64 kind, .string (strN text), .int .i64 num, .int .i64 pl] 33)).drew := ((Below.refl _ _).alloc (Nat.le_refl _) _).drew
            have KS := Lib.hid (same (some ⟨wt.heap.size, 0, none⟩) (some ⟨gz, k * 4, none⟩) [⟨kind, text, num, pl⟩] 1 1 (cz - k) (wt.alloc (.cells #[.int .i64 kind, .string (strN text), .int .i64 num, .int .i64 pl] 33)).drew rfl (by omega) (two_one HTW.out hgw))
            refine hK.out _ _ h11 (fun _ => ?_)
            clear hK K hHeld
            refine wpAnyH_ready (rs := [7]) (by kernel_rfl) (by simp) ?_
            refine AllReadyH.cons rfl (fun K hK => ?_) AllReadyH.nil
            go_simp
            refine KS.out.mono ?_
            rintro e w12 ⟨rfl, h12⟩
            have hHeld : Below wt.heap.size wt w12 := h11.trans (h12.mono h11.size)
            go_wp2_with fail
            refine hK.out _ _ hHeld (fun _ => ?_)
            clear hK K h12
            refine wpAnyH_take (i := 8) (v := ?v8) rfl (by kernel_rfl) (by kernel_rfl) (by kernel_rfl) (fun _ _ _ h => h) (Or.inl ⟨by kernel_rfl, ?y8⟩) (by assumption) ?r8
            case y8 => (intro w hSw; (try dsimp only at hSw); go_simp; (try with_reducible rfl))
            try simp only [Act.put, List.getElem_toArray, List.getElem_cons_zero, List.getElem_cons_succ, List.setIfInBounds_toArray, List.set_cons_zero, List.set_cons_succ]
            refine wpAnyH_done (by kernel_rfl) ?_ _
            go_wp2
            go_roundw
            case rel => exact ⟨k + 1, by omega, by go_num, HB.out.trans ((HWT.out.trans (hHeld.mono HWT.out.size)).mono sr)⟩
            case measure => simp [intOf]; omega
          · obtain ⟨t, htk⟩ : ∃ t, ys[k - xs.length]? = some t := ⟨_, List.getElem?_eq_getElem (by omega)⟩
            obtain ⟨gy, cy', hv, _, hgy, hrowy⟩ := own_tok OYz.out (by omega)
            injection hv with hv1 hv2' hv3
            subst hv1 hv3
            have TZ := (hrowz k (shift D t) (by rw [List.getElem?_append_right (by omega), List.getElem?_map, htk]; rfl)).below HB.out hgz
            obtain ⟨T1, T2, T3, T4⟩ := ((hrowy (k - xs.length) t htk).below HB.out hgy).below (below_alloc wr (.cells #[.int .i64 0, .string ⟨#[]⟩, .int .i64 0, .int .i64 0] 33)) (Nat.lt_of_lt_of_le hgy sr)
            have HTZ := Lib.hid TZ
            have hple := HPL.out t (List.mem_of_getElem? htk)
            clear hrowz hrowy htk TZ hv2 hv2'
            obtain ⟨kind, text, num, pl⟩ := t
            dsimp only [shift] at T1 T2 T3 T4 HTZ hple
            have HRT : Hid (∀ w', Below (wr.alloc (.cells #[.int .i64 kind, .string (strN text), .int .i64 num, .int .i64 ((pl + D : Nat) : Int)] 33)).heap.size (wr.alloc (.cells #[.int .i64 kind, .string (strN text), .int .i64 num, .int .i64 ((pl + D : Nat) : Int)] 33)) w' → w'.rangeAt wr.heap.size 0 [.int .i64 kind, .string (strN text), .int .i64 num, .int .i64 ((pl + D : Nat) : Int)]) := fun w' h => range_of_new h
            go_wp2
            clear T1 T2 T3 T4
            rw [show ((pl : Int) + ((D : Int) + (b.length : Int)) - (b.length : Int)) = ((pl + D : Nat) : Int) by omega]
            have HWT := Lib.hid (below_alloc wr (.cells #[.int .i64 kind, .string (strN text), .int .i64 num, .int .i64 ((pl + D : Nat) : Int)] 33))
            have HTW := Lib.hid (tok_of (HTZ.out.below HWT.out (Nat.lt_of_lt_of_le hgz sr)))
            have hgw := Nat.lt_of_lt_of_le (Nat.lt_of_lt_of_le hgz sr) HWT.out.size
            generalize wr.alloc (.cells #[.int .i64 kind, .string (strN text), .int .i64 num, .int .i64 ((pl + D : Nat) : Int)] 33) = wt at *
            generalize pl + D = P at *
            have hwrap : IntKind.i64.wrap ((k : Int) + 1) = (k : Int) + 1 := IntWalk.i64_in _ (by omega)
            have c1 : (0 : Int) ≤ (k : Int) + 1 := by omega
            have c2 : (k : Int) + 1 ≤ (cz : Int) := by omega
            have c3 : ¬ cz = k := by omega
            have c4 : k ≤ ((k : Int) + 1).toNat := by omega
            have c5 : ((k : Int) + 1).toNat - k = 1 := by omega
            refine wp_region_held_drew (S := fun w' => Below wt.heap.size wt w') (by kernel_rfl) ?_ (fun hHeld => ?_)
            · exact (Below.refl _ _).drew
            refine wpAnyH_take (i := 0) (v := .agg #[.int .i64 kind, .string (strN text), .int .i64 num, .int .i64 P]) rfl (by kernel_rfl) (by kernel_rfl) (by kernel_rfl) (fun _ _ _ h => h) (yieldsIf_load_mid (by kernel_rfl) 33 (.tmp 20) rfl wr.heap.size 0 rfl _ _ (fun w' h => HRT.out w' h) Tryd.underlying33 rfl info33s) (by assumption) ?br0
            simp only [Act.put, List.getElem_toArray, List.getElem_cons_zero, List.setIfInBounds_toArray, List.set_cons_zero, List.set_cons_succ]
            refine wpAnyH_take (i := 2) (v := ?bv2) rfl (by kernel_rfl) (by kernel_rfl) (by kernel_rfl) (fun _ _ _ h => h) (Or.inl ⟨by kernel_rfl, ?by2⟩) (by assumption) ?br2
            case by2 => (intro w hSw; (try dsimp only at hSw); go_simp; (try with_reducible rfl))
            try simp only [Act.put, List.getElem_toArray, List.getElem_cons_zero, List.getElem_cons_succ, List.setIfInBounds_toArray, List.set_cons_zero, List.set_cons_succ]
            refine wpAnyH_take (i := 3) (v := ?bv3) rfl (by kernel_rfl) (by kernel_rfl) (by kernel_rfl) (fun _ _ _ h => h) (Or.inl ⟨by kernel_rfl, ?by3⟩) (by assumption) ?br3
            case by3 => (intro w hSw; (try dsimp only at hSw); go_simp; (try with_reducible rfl))
            try simp only [Act.put, List.getElem_toArray, List.getElem_cons_zero, List.getElem_cons_succ, List.setIfInBounds_toArray, List.set_cons_zero, List.set_cons_succ]
            refine wpAnyH_take (i := 4) (v := ?bv4) rfl (by kernel_rfl) (by kernel_rfl) (by kernel_rfl) (fun _ _ _ h => h) (Or.inl ⟨by kernel_rfl, ?by4⟩) (by assumption) ?br4
            case by4 => (intro w hSw; (try dsimp only at hSw); go_simp; (try with_reducible rfl))
            try simp only [Act.put, List.getElem_toArray, List.getElem_cons_zero, List.getElem_cons_succ, List.setIfInBounds_toArray, List.set_cons_zero, List.set_cons_succ]
            refine wpAnyH_take (i := 5) (v := ?bv5) rfl (by kernel_rfl) (by kernel_rfl) (by kernel_rfl) (fun _ _ _ h => h) (Or.inl ⟨by kernel_rfl, ?by5⟩) (by assumption) ?br5
            case by5 => (intro w hSw; (try dsimp only at hSw); go_simp; (try with_reducible rfl))
            try simp only [Act.put, List.getElem_toArray, List.getElem_cons_zero, List.getElem_cons_succ, List.setIfInBounds_toArray, List.set_cons_zero, List.set_cons_succ]
            refine wpAnyH_take (i := 6) (v := ?bv6) rfl (by kernel_rfl) (by kernel_rfl) (by kernel_rfl) (fun _ _ _ h => h) (Or.inl ⟨by kernel_rfl, ?by6⟩) (by assumption) ?br6
            case by6 => (intro w hSw; (try dsimp only at hSw); go_simp; (try with_reducible rfl))
            try simp only [Act.put, List.getElem_toArray, List.getElem_cons_zero, List.getElem_cons_succ, List.setIfInBounds_toArray, List.set_cons_zero, List.set_cons_succ]
            refine wpAnyH_ready (rs := [1]) (by kernel_rfl) (by simp) ?_
            refine AllReadyH.cons rfl (fun K hK => ?_) AllReadyH.nil
            go_simp
            have h11 : Below wt.heap.size wt (wt.alloc (.cells #[.int .i64 kind, .string (strN text), .int .i64 num, .int .i64 P] 33)).drew := ((Below.refl _ _).alloc (Nat.le_refl _) _).drew
            have KS := Lib.hid (same (some ⟨wt.heap.size, 0, none⟩) (some ⟨gz, k * 4, none⟩) [⟨kind, text, num, P⟩] 1 1 (cz - k) (wt.alloc (.cells #[.int .i64 kind, .string (strN text), .int .i64 num, .int .i64 P] 33)).drew rfl (by omega) (two_one HTW.out hgw))
            refine hK.out _ _ h11 (fun _ => ?_)
            clear hK K hHeld
            refine wpAnyH_ready (rs := [7]) (by kernel_rfl) (by simp) ?_
            refine AllReadyH.cons rfl (fun K hK => ?_) AllReadyH.nil
            go_simp
            refine KS.out.mono ?_
            rintro e w12 ⟨rfl, h12⟩
            have hHeld : Below wt.heap.size wt w12 := h11.trans (h12.mono h11.size)
            go_wp2_with fail
            refine hK.out _ _ hHeld (fun _ => ?_)
            clear hK K h12
            refine wpAnyH_take (i := 8) (v := ?bv8) rfl (by kernel_rfl) (by kernel_rfl) (by kernel_rfl) (fun _ _ _ h => h) (Or.inl ⟨by kernel_rfl, ?by8⟩) (by assumption) ?br8
            case by8 => (intro w hSw; (try dsimp only at hSw); go_simp; (try with_reducible rfl))
            try simp only [Act.put, List.getElem_toArray, List.getElem_cons_zero, List.getElem_cons_succ, List.setIfInBounds_toArray, List.set_cons_zero, List.set_cons_succ]
            refine wpAnyH_done (by kernel_rfl) ?_ _
            go_wp2
            go_roundw
            case rel => exact ⟨k + 1, by omega, by go_num, HB.out.trans ((HWT.out.trans (hHeld.mono HWT.out.size)).mono sr)⟩
            case measure => simp [intOf]; omega
        · have hfin := BW10.out.trans (HB.out.mono s10)
          go_wp2
          go_ret
          exact ⟨rfl, hfin⟩
end Go.Proofs.YtdmjlgjnboofdaaDoor
